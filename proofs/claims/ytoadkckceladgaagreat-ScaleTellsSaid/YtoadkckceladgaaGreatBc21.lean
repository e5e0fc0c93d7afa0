/-
  Fpd, Fpe, Fpf, Fpg
-/
import Derived.Test.YtoadkckceladgaaGreatBc20
import Derived.Deep.LoopGhost
set_option linter.unusedVariables false
set_option linter.unusedSimpArgs false
set_option maxRecDepth 100000
set_option maxHeartbeats 4000000
namespace Go.Proofs.YtoadkckceladgaaGreat
open Go.ChangeShapes Go.WideShapes Go.ChangeAt Go.RowKit
open Lib (hid)
namespace Fo
open Sp (Off Ext SpO ac jc it)
structure FoH (w:World) (B:Nat) (F:Nat→Prop) (p q go:Nat) (F1:Nat→Prop) (s:Sp.St) (ov:Nat→Option Nat) (lo hi:Nat):Prop where
 blk:w.heap[p]? = some (.cells #[.pointer (some ⟨q,0,none⟩),.slice (some ⟨go,0,none⟩) s.v.length s.v.length] 174 (0,0))
 box:Ne.IBox w go (ovL s.v.length ov)
 spo:SpO w B F1 q s lo hi
 sub:∀ g,F1 g→F g
 pin:F p∧F go
 pno:¬ F1 p∧¬ F1 go∧p≠go
 fin:∀ g,F g→B≤g∧g<w.heap.size
def FoP (w:World) (B:Nat) (F:Nat→Prop) (p q go:Nat) (s:Sp.St) (ov:Nat→Option Nat) (lo hi:Nat):Prop:=∃ F1,FoH w B F p q go F1 s ov lo hi
def FoA (F:Nat→Prop) (w0 w:World) (B p q go:Nat) (s:Sp.St) (ov:Nat→Option Nat) (lo hi:Nat):Prop:=FoP w B (Ext F w0 w) p q go s ov lo hi∧Off F w0 w
section
variable {F F1 G:Nat→Prop} {w w0 w2:World} {B p q go lo hi:Nat} {s:Sp.St} {ov:Nat→Option Nat}
theorem FoP.good (h:FoP w B F p q go s ov lo hi):Sp.Good s:=by obtain ⟨F1,h⟩:=h;exact h.spo.good
theorem FoP.cells (h:FoP w B F p q go s ov lo hi):w.cell? ⟨p,0,none⟩=some (.pointer (some ⟨q,0,none⟩))∧w.cell? ⟨p,1,none⟩=some (.slice (some ⟨go,0,none⟩) s.v.length s.v.length):=by
 obtain ⟨F1,h⟩:=h
 have:=h.blk
 simp [World.cell?,this]
theorem FoP.over (h:FoP w B F p q go s ov lo hi) {i:Nat} (hi:i<s.v.length):w.cell? ⟨go,i,none⟩=some (.int .i64 (oz (ov i)))∧w.frozen? ⟨go,i,none⟩=false:=by
 obtain ⟨F1,h⟩:=h
 have h1:=h.box.cell (i:=i) (by rw [ovL_len];exact hi)
 rw [ovL_at ov hi] at h1
 exact ⟨h1,h.box.frozen i⟩
theorem FoP.fin (h:FoP w B F p q go s ov lo hi):∀ g,F g→B≤g∧g<w.heap.size:=by obtain ⟨F1,h⟩:=h;exact h.fin
theorem FoP.mono (h:FoP w B F p q go s ov lo hi) (hG:∀ g,F g→G g) (hf:∀ g,G g→B≤g∧g<w.heap.size):FoP w B G p q go s ov lo hi:=by
 obtain ⟨F1,h⟩:=h
 exact ⟨F1,h.blk,h.box,h.spo,fun g hg=>hG g (h.sub g hg),⟨hG _ h.pin.1,hG _ h.pin.2⟩,h.pno,hf⟩
theorem FoP.low {lo2:Nat} (h:FoP w B F p q go s ov lo hi) (hl:lo2≤lo):FoP w B F p q go s ov lo2 hi:=by
 obtain ⟨F1,h⟩:=h
 exact ⟨F1,h.blk,h.box,h.spo.low hl,h.sub,h.pin,h.pno,h.fin⟩
theorem FoP.grow {hi2:Nat} (h:FoP w B F p q go s ov lo hi) (hl:hi≤hi2):FoP w B F p q go s ov lo hi2:=by
 obtain ⟨F1,h⟩:=h
 exact ⟨F1,h.blk,h.box,h.spo.grow hl,h.sub,h.pin,h.pno,h.fin⟩
theorem FoP.off (h:FoP w B F p q go s ov lo hi) (ho:Off G w w2) (hd:∀ g,F g→¬ G g):FoP w2 B F p q go s ov lo hi:=by
 obtain ⟨F1,h⟩:=h
 have hp:=h.fin p h.pin.1
 have hg:=h.fin go h.pin.2
 exact ⟨F1,(ho.block p hp.2 (hd p h.pin.1)).trans h.blk,h.box.same (ho.block go hg.2 (hd go h.pin.2)),h.spo.off ho (fun g hg=>hd g (h.sub g hg)),h.sub,h.pin,h.pno,fun g hg=>⟨(h.fin g hg).1,Nat.lt_of_lt_of_le (h.fin g hg).2 ho.size⟩⟩
theorem FoP.start (h:FoP w B F p q go s ov lo hi):FoA F w w B p q go s ov lo hi :=
 ⟨h.mono (fun g hg=>.inl hg) (fun g hg=>by
  rcases hg with hg | hg
  ·exact h.fin g hg
  ·omega),Off.refl _ _⟩
theorem FoA.low {lo2:Nat} (h:FoA F w0 w B p q go s ov lo hi) (hl:lo2≤lo):FoA F w0 w B p q go s ov lo2 hi:=⟨h.1.low hl,h.2⟩
theorem FoA.grow {hi2:Nat} (h:FoA F w0 w B p q go s ov lo hi) (hl:hi≤hi2):FoA F w0 w B p q go s ov lo hi2:=⟨h.1.grow hl,h.2⟩
theorem FoA.to {s2:Sp.St} {ov2:Nat→Option Nat} {lo2 hi2:Nat} (h:FoA F w0 w B p q go s ov lo hi) (hB:B≤w0.heap.size) (h2:FoP w2 B (Ext (Ext F w0 w) w w2) p q go s2 ov2 lo2 hi2) (ho:Off (Ext F w0 w) w w2):FoA F w0 w2 B p q go s2 ov2 lo2 hi2 :=
 ⟨h2.mono (fun g hg=>Sp.ext_two hg h.2.size ho.size) (fun g hg=>by
  have:=ho.size
  rcases hg with hg | hg
  ·have:=h.1.fin g (.inl hg);omega
  ·omega),Sp.off_two h.2 ho⟩
theorem FoA.call {fn:FuncId} {args:Array Value} {e0:Ending} {s2:Sp.St} {lo2 hi2:Nat} (h:FoA F w0 w B p q go s ov lo hi) (hB:B≤w0.heap.size)
  (hc:∀ F1,SpO w B F1 q s lo hi→B≤w.heap.size→Calls Tryz.prog fn args w fun e w'=>e=e0∧SpO w' B (Ext F1 w w') q s2 lo2 hi2∧Off F1 w w') (hl:s2.v.length=s.v.length) :
  Calls Tryz.prog fn args w fun e w'=>e=e0∧FoA F w0 w' B p q go s2 ov lo2 hi2:=by
 obtain ⟨F1,h1⟩:=h.1
 refine (hc F1 h1.spo (Nat.le_trans hB h.2.size)).mono ?_
 rintro e w' ⟨rfl,h2,o2⟩
 refine ⟨rfl,h.to hB ?_ (o2.mono h1.sub)⟩
 have hp:=h1.fin p h1.pin.1
 have hg:=h1.fin go h1.pin.2
 have hs:=o2.size
 refine ⟨Ext F1 w w',?_,?_,h2,fun g hg=>?_,⟨.inl h1.pin.1,.inl h1.pin.2⟩,⟨fun c=>?_,fun c=>?_,h1.pno.2.2⟩,fun g hg=>?_⟩
 ·rw [hl];exact (o2.block p hp.2 h1.pno.1).trans h1.blk
 ·rw [hl];exact h1.box.same (o2.block go hg.2 h1.pno.2.1)
 ·rcases hg with hg | hg
  ·exact .inl (h1.sub g hg)
  ·exact .inr hg
 ·rcases c with c | c
  ·exact h1.pno.1 c
  ·omega
 ·rcases c with c | c
  ·exact h1.pno.2.1 c
  ·omega
 ·rcases hg with hg | hg
  ·have:=h1.fin g hg;omega
  ·have:=h.2.size;omega
theorem FoA.put (h:FoA F w0 w B p q go s ov lo hi) (hB:B≤w0.heap.size) {i:Nat} (hi':i<s.v.length) (y:Option Nat):FoA F w0 (w.setCell ⟨go,i,none⟩ (.int .i64 (oz y))) B p q go s (fun z=>if z=i then y else ov z) lo hi:=by
 obtain ⟨F1,h1⟩:=h.1
 have hp:=h1.fin p h1.pin.1
 have hg:=h1.fin go h1.pin.2
 have ho:Off (fun g=>g=go) w (w.setCell ⟨go,i,none⟩ (.int .i64 (oz y))):=(Off.refl (fun g=>g=go) w).set (p:=⟨go,i,none⟩) (.inl rfl) _
 have hz:(w.setCell ⟨go,i,none⟩ (.int .i64 (oz y))).heap.size=w.heap.size:=by simp [World.setCell]
 refine h.to hB ⟨F1,(ho.block p hp.2 h1.pno.2.2).trans h1.blk,?_,h1.spo.off ho (fun g hg c=>h1.pno.2.1 (by rw [← c];exact hg)),fun g hg=>.inl (h1.sub g hg),⟨.inl h1.pin.1,.inl h1.pin.2⟩,h1.pno,fun g hg=>?_⟩ (ho.mono fun g hg=>by rw [hg];exact h1.pin.2)
 ·have:=h1.box.set (i:=i) (by rw [ovL_len];exact hi') (oz y)
  rw [ovL_set ov hi' y] at this
  exact this
 ·rcases hg with hg | hg
  ·have:=h1.fin g hg;omega
  ·omega
theorem fhas_any (h:FoP w B F p q go s ov lo hi) (x:Int) :
  Calls Tryz.prog 126 #[.pointer (some ⟨p,0,none⟩),.int .i64 x] w fun e w'=>e=.returned (.bool (decide (0≤x∧x<(s.v.length:Int))))∧w=w':=by
 obtain ⟨_,n1⟩:=h.cells
 clear h
 generalize s.v.length=n at *
 generalize hq:decide (0≤x∧x<(n:Int))=q
 by_cases c1:0≤x
 ·by_cases c2:x<(n:Int)
  ·obtain rfl:q=true:=by rw [← hq];simp [c1,c2]
   clear hq
   go_enter Tryz.func126,Tryz.ntmps126
   go_wp2
   go_ret
   exact ⟨rfl,rfl⟩
  ·obtain rfl:q=false:=by rw [← hq];simp;omega
   clear hq
   go_enter Tryz.func126,Tryz.ntmps126
   go_wp2
   go_ret
   exact ⟨rfl,rfl⟩
 ·obtain rfl:q=false:=by rw [← hq];simp;omega
  clear hq
  go_enter Tryz.func126,Tryz.ntmps126
  go_wp2
  go_ret
  exact ⟨rfl,rfl⟩
theorem part_any (h:FoA F w0 w B p q go s ov lo hi) (hB:B≤w0.heap.size) {v:Nat} (hv:v<s.v.length) :
  Calls Tryz.prog 127 #[.pointer (some ⟨p,0,none⟩),.int .i64 (v:Int)] w fun e w'=>e=.returned (.tuple #[])∧FoA F w0 w' B p q go (partS s v) (partO s ov v) lo (hi+4*ac s.v.length):=by
 obtain ⟨n0,n1⟩:=h.1.cells
 have hg:=h.1.good
 have HBS:=hid (h.call hB (fn:=123) (args:=#[.agg #[.pointer (some ⟨q,0,none⟩)],.int .i64 (v:Int),.int .i64 1]) (fun F1 h1 hb1=>Sp.beside_any h1 hb1 (v:Int) 1 (by omega)) rfl)
 rw [beside_next hg hv] at HBS
 have hxl:∀ u,nx s v=some u→u<s.v.length:=fun u hu=>hg.lt v u (List.mem_of_getElem? hu)
 cases hx:nx s v with
 | none =>
  rw [hx] at HBS
  have e1:partS s v=s:=by unfold partS;rw [hx]
  have e2:partO s ov v=ov:=by unfold partO;rw [hx]
  rw [e1,e2]
  clear e1 e2 hx hxl hg h
  simp only [oz] at HBS
  go_enter Tryz.func127,Tryz.ntmps127
  go_wp2_with fail
  refine HBS.out.mono ?_
  rintro e w1 ⟨rfl,h1⟩
  have H1:=hid (h1.grow (hi2:=hi+4*ac s.v.length) (by omega))
  clear h1
  go_wp2
  go_end0
  exact ⟨rfl,H1.out⟩
 | some u =>
  rw [hx] at HBS
  have hu:=hxl u hx
  have e1:partS s v=Sp.splitS s (u:Int):=by unfold partS;rw [hx]
  have e2:partO s ov v=fun z=>if z=u then some v else ov z:=by unfold partO;rw [hx]
  rw [e1,e2]
  simp only [oz] at HBS
  have hui:(u:Int)<(s.v.length:Int):=by omega
  have hu0:(0:Int)≤(u:Int):=by omega
  have hne:(((u:Int) != -1)=true):=by simp <;> omega
  have HCL:=hid (show ∀ (w':World) (s:Sp.St) (lo hi:Nat),FoA F w0 w' B p q go s ov lo hi→(w'.cell? ⟨p,0,none⟩=some (.pointer (some ⟨q,0,none⟩))∧w'.cell? ⟨p,1,none⟩=some (.slice (some ⟨go,0,none⟩) s.v.length s.v.length)) from fun w' s lo hi hh=>hh.1.cells)
  have HSP:=hid (show ∀ (w':World) (lo hi:Nat),FoA F w0 w' B p q go s ov lo hi→Calls Tryz.prog 135 #[.pointer (some ⟨q,0,none⟩),.int .i64 (u:Int)] w' fun e w2=>e=.returned (.int .i64 (Sp.splitE s (u:Int)))∧FoA F w0 w2 B p q go (Sp.splitS s (u:Int)) ov (lo+it s (u:Int)) (hi+ac s.v.length) from fun w' lo hi hh=>hh.call hB (fun F1 h1 hb1=>Sp.dsplit_c h1 hb1 (u:Int)) rfl)
  have HEND:=hid (show ∀ (w':World) (lo2 hi2:Nat),FoA F w0 w' B p q go (Sp.splitS s (u:Int)) ov lo2 hi2→(w'.frozen? ⟨go,u,none⟩=false∧(∃ x,w'.cell? ⟨go,u,none⟩=some x))∧(lo≤lo2→hi2≤hi+4*ac s.v.length→FoA F w0 (w'.setCell ⟨go,u,none⟩ (.int .i64 (v:Int))) B p q go (Sp.splitS s (u:Int)) (fun z=>if z=u then some v else ov z) lo (hi+4*ac s.v.length)) from fun w' lo2 hi2 hh=>⟨⟨(hh.1.over hu).2,_,(hh.1.over hu).1⟩,fun g1 g2=>((hh.put hB (i:=u) hu (some v)).low g1).grow g2⟩)
  have hsl:(Sp.splitS s (u:Int)).v=s.v:=rfl
  generalize Sp.splitS s (u:Int)=s2 at *
  generalize Sp.splitE s (u:Int)=E2 at *
  clear e1 e2 hx hxl hg h hu
  have hl2:s2.v.length=s.v.length:=by rw [hsl]
  clear hsl
  generalize hn:s.v.length=n at *
  go_enter Tryz.func127,Tryz.ntmps127
  go_wp2_with fail
  refine HBS.out.mono ?_
  rintro e w1 ⟨rfl,h1⟩
  obtain ⟨m0,m1⟩:=HCL.out _ _ _ _ h1
  have H1:=hid h1
  clear h1 n0 n1
  go_wp2_with fail
  refine (HSP.out _ _ _ H1.out).mono ?_
  rintro e w2 ⟨rfl,h2⟩
  obtain ⟨k0,k1⟩:=HCL.out _ _ _ _ h2
  rw [hl2] at k1
  obtain ⟨⟨hf,x0,hx0⟩,hput⟩:=HEND.out _ _ _ h2
  have HP:=hid (hput (by omega) (by omega))
  clear h2 hput m0 m1
  go_wp2
  go_end0
  exact ⟨rfl,HP.out⟩
end
end Fo
namespace Fo
open Sp (Off Ext SpO ac jc it)
def tc (n:Nat):Nat:=6*ac n+jc n
def Shn (F:Nat→Prop) (w0 w':World) (B p q go:Nat) (f:Ft) (s:Sp.St) (lo hi v r:Nat):Prop :=
 ∃ s' ov' h',FoA F w0 w' B p q go s' ov' (lo+1) h'∧Rp f s' ov'∧s'.r v=path f v∧root f v=some r∧f.up r=none ∧
  h' + tc f.v.length*idle f (pf s')≤hi+tc f.v.length*(idle f (pf s)+2*lights f (path f v)+1)+6*ac f.v.length
def Md (F:Nat→Prop) (w0 wr:World) (B p q go:Nat) (f:Ft) (s0:Sp.St) (lo H v a gg:Nat):Prop :=
 ∃ s ov X h,FoA F w0 wr B p q go s ov (lo+1) h∧Lp f s0 s ov v X a∧X.length=gg∧h+tc f.v.length*cnt f s0 (X ++ [a])≤H
section
variable {F F1 G:Nat→Prop} {w w0 w2:World} {B p q go lo hi:Nat} {s:Sp.St} {ov:Nat→Option Nat} {f:Ft}
theorem first_hd {s:Sp.St} {v a:Nat} (h:(s.r v).head? = some a):Sp.firstZ s (v:Int)=(a:Int):=by
 unfold Sp.firstZ
 rw [Sp.rZn]
 cases e:s.r v with
 | nil=>rw [e] at h;cases h
 | cons b l=>rw [e] at h;cases h;rfl
theorem it_one {s:Sp.St} (h:Sp.Good s) {x:Nat} (hx:x<s.v.length):it s (x:Int)=1:=by
 unfold it
 rw [Sp.rZn,if_neg (h.ne_nil hx)]
theorem md_step (hB:B≤w0.heap.size) {v a gg H:Nat} {wr:World} {X:List Nat} {s0:Sp.St} {h u:Nat} (hv:v<f.v.length) (hA:FoA F w0 wr B p q go s ov (lo+1) h) (hL:Lp f s0 s ov v X a) (hu:ov a=some u) (hg:X.length=gg) (hH:h+tc f.v.length*cnt f s0 (X ++ [a])≤H) :
  FoA F w0 (wr.setCell ⟨go,a,none⟩ (.int .i64 (-1))) B p q go s (fun z=>if z=a then none else ov z) (lo+1) h ∧
  (∀ w2:World,∀ lo2 hi2,FoA F w0 w2 B p q go s (fun z=>if z=a then none else ov z) lo2 hi2→Calls Tryz.prog 127 #[.pointer (some ⟨p,0,none⟩),.int .i64 (u:Int)] w2 fun e w'=>e=.returned (.tuple #[])∧FoA F w0 w' B p q go (partS s u) (partO s (fun z=>if z=a then none else ov z) u) lo2 (hi2+4*ac s.v.length)) ∧
  (∀ w2:World,∀ lo2 hi2,FoA F w0 w2 B p q go (partS s u) (partO s (fun z=>if z=a then none else ov z) u) lo2 hi2→w2.cell? ⟨p,0,none⟩=some (.pointer (some ⟨q,0,none⟩))∧Calls Tryz.prog 129 #[.pointer (some ⟨q,0,none⟩),.int .i64 (u:Int),.int .i64 (v:Int)] w2 fun e w'=>e=.returned (.int .i64 0)∧∃ lo3,lo2≤lo3∧FoA F w0 w' B p q go (Sp.joinS (partS s u) (u:Int) (v:Int)) (partO s (fun z=>if z=a then none else ov z) u) lo3 (hi2+jc s.v.length)) ∧
  (∃ a' gg',gg' + 1≤gg∧a' < f.v.length∧∀ w2:World,∀ lo2 hi2,lo+1≤lo2→hi2≤h+4*ac s.v.length+jc s.v.length→FoA F w0 w2 B p q go (Sp.joinS (partS s u) (u:Int) (v:Int)) (partO s (fun z=>if z=a then none else ov z) u) lo2 hi2→w2.cell? ⟨p,0,none⟩=some (.pointer (some ⟨q,0,none⟩))∧Calls Tryz.prog 128 #[.pointer (some ⟨q,0,none⟩),.int .i64 (v:Int)] w2 fun e w'=>e=.returned (.int .i64 (a':Int))∧Md F w0 w' B p q go f s0 lo H v a' gg'):=by
 obtain ⟨hun,han,X',a',hL',hc,hx⟩:=lp_step hL hu
 have hr:=hL.rp
 have hsl:=hr.len
 have hgd:=hr.sg
 have hj:Sp.joinE (partS s u) (u:Int) (v:Int)=0∧(Sp.joinS (partS s u) (u:Int) (v:Int)).v=s.v:=by
  have h1:=hL'.rp.val
  refine ⟨?_,by rw [h1];exact hr.val.symm⟩
  apply Classical.byContradiction
  intro c
  have h2:(Sp.joinS (partS s u) (u:Int) (v:Int))=partS s u:=by unfold Sp.joinS;rw [if_neg c]
  have h3:=hL'.rp.fst v
  have h4:=hL'.row
  have h5:=hL.row
  obtain ⟨A,D,e⟩:=hr.split hun
  have hav:a∈s.r v:=List.mem_of_head? hL.hd
  rw [h2] at h4
  have hvs:v∈s.r v:=hr.mem hv
  have hlen:=congrArg List.length h4
  have hlen2:=congrArg List.length h5
  simp only [List.length_append] at hlen hlen2
  have hle:((partS s u).r v).length≤(s.r v).length:=by
   rw [part_r hgd e]
   split
   ·rename_i g
    have:s.r v=s.r u:=hgd.same u v (by rw [e,show A ++ u :: D=(A ++ [u]) ++ D by simp];exact List.mem_append_left _ g)
    rw [this,e];simp
   ·split
    ·rename_i g
     have:s.r v=s.r u:=hgd.same u v (by rw [e,show A ++ u :: D=(A ++ [u]) ++ D by simp];exact List.mem_append_right _ g)
     rw [this,e];simp;omega
    ·exact Nat.le_refl _
  omega
 refine ⟨hA.put hB (i:=a) (by rw [hsl];exact han) none,fun w2 lo2 hi2 h2=>part_any h2 hB (by rw [hsl];exact hun),fun w2 lo2 hi2 h2=>⟨h2.1.cells.1,?_⟩,a',X'.length,by omega,?_,fun w2 lo2 hi2 g1 g2 h2=>⟨h2.1.cells.1,?_⟩⟩
 ·have hcl:=h2.call hB (fn:=129) (args:=#[.pointer (some ⟨q,0,none⟩),.int .i64 (u:Int),.int .i64 (v:Int)]) (fun F1 h1 hb1=>Sp.djoin_c h1 hb1 (u:Int) (v:Int)) (by rw [hj.2,partS_v])
  rw [hj.1] at hcl
  refine hcl.mono ?_
  rintro e w' ⟨h3,h4⟩
  refine ⟨h3,_,?_,by rw [partS_v] at h4;exact h4⟩
  omega
 ·exact hL'.rp.lt (List.mem_of_head? hL'.hd)
 ·have hcl:=h2.call hB (fn:=128) (args:=#[.pointer (some ⟨q,0,none⟩),.int .i64 (v:Int)]) (fun F1 h1 hb1=>Sp.dfirst_c h1 hb1 (v:Int)) rfl
  rw [first_hd hL'.hd] at hcl
  refine hcl.mono ?_
  rintro e w' ⟨h3,h4⟩
  refine ⟨h3,_,_,X',_,h4.low (by omega),hL',rfl,?_⟩
  rw [hj.2]
  have h5:=Nat.mul_le_mul_left (tc f.v.length) hc
  rw [Nat.mul_add,Nat.mul_one] at h5
  have h6:tc f.v.length=6*ac s.v.length+jc s.v.length:=by unfold tc;rw [hsl]
  omega
theorem md_end {v a H:Nat} {wr:World} {X:List Nat} {s0:Sp.St} {h:Nat} (hv:v<f.v.length) (hA:FoA F w0 wr B p q go s ov (lo+1) h) (hL:Lp f s0 s ov v X a) (hu:ov a=none) (hH:h+tc f.v.length*cnt f s0 (X ++ [a])≤H)
  (hHH:H≤hi+tc f.v.length*turns f (pf s0) v+6*ac f.v.length):Shn F w0 wr B p q go f s0 lo hi v a:=by
 obtain ⟨rfl,h1,h2,h3⟩:=lp_end hL hu
 have hc:=lp_cost hL hv h1
 refine ⟨s,ov,h,hA,hL.rp,h1,h2,h3,?_⟩
 have h5:=Nat.mul_le_mul_left (tc f.v.length) hc
 rw [Nat.mul_add,] at h5
 omega
theorem show_any (h:FoA F w0 w B p q go s ov lo hi) (hB:B≤w0.heap.size) (hr:Rp f s ov) {v:Nat} (hv:v<f.v.length) :
  Calls Tryz.prog 118 #[.pointer (some ⟨p,0,none⟩),.int .i64 (v:Int)] w fun e w'=>∃ r:Nat,e=.returned (.int .i64 (r:Int))∧Shn F w0 w' B p q go f s lo hi v r:=by
 obtain ⟨n0,n1⟩:=h.1.cells
 have hsl:=hr.len
 have HHS:=hid (fhas_any h.1 (v:Int))
 rw [show decide (0≤(v:Int)∧(v:Int)<(s.v.length:Int))=true by simp;omega] at HHS
 have HPT:=hid (part_any h hB (v:=v) (by rw [hsl];exact hv))
 obtain ⟨X,a,hL,hc,hX⟩:=lp_start hr hv
 have HFS:=hid (show ∀ (w2:World),FoA F w0 w2 B p q go (partS s v) (partO s ov v) lo (hi+4*ac s.v.length)→w2.cell? ⟨p,0,none⟩=some (.pointer (some ⟨q,0,none⟩))∧Calls Tryz.prog 128 #[.pointer (some ⟨q,0,none⟩),.int .i64 (v:Int)] w2 fun e w'=>e=.returned (.int .i64 (a:Int))∧Md F w0 w' B p q go f s lo (hi+tc f.v.length*turns f (pf s) v+6*ac f.v.length) v a X.length from fun w2 h2=>by
  refine ⟨h2.1.cells.1,?_⟩
  have hcl:=h2.call hB (fn:=128) (args:=#[.pointer (some ⟨q,0,none⟩),.int .i64 (v:Int)]) (fun F1 h1 hb1=>Sp.dfirst_c h1 hb1 (v:Int)) rfl
  rw [first_hd hL.hd,it_one (good_part s hr.sg v) (by rw [partS_v,hsl];exact hv),partS_v] at hcl
  refine hcl.mono ?_
  rintro e w' ⟨h3,h4⟩
  refine ⟨h3,_,_,X,_,h4,hL,rfl,?_⟩
  have h5:=Nat.mul_le_mul_left (tc f.v.length) hc
  rw [hsl]
  omega)
 have ha:a<f.v.length:=hL.rp.lt (List.mem_of_head? hL.hd)
 have HAL:=hid ha
 have HVL:=hid hv
 generalize hmm:X.length=m at *
 have HM:=hid hmm
 clear hmm
 have HMD:=hid (show ∀ (wr:World) (a gg:Nat),Md F w0 wr B p q go f s lo (hi+tc f.v.length*turns f (pf s) v+6*ac f.v.length) v a gg→a<f.v.length∧wr.cell? ⟨p,1,none⟩=some (.slice (some ⟨go,0,none⟩) f.v.length f.v.length)∧((wr.cell? ⟨go,a,none⟩=some (.int .i64 (-1))∧Shn F w0 wr B p q go f s lo hi v a) ∨
   (∃ u:Nat,wr.frozen? ⟨go,a,none⟩=false∧wr.cell? ⟨go,a,none⟩=some (.int .i64 (u:Int))∧∃ s1 ov1 X1 h1,FoA F w0 wr B p q go s1 ov1 (lo+1) h1∧Lp f s s1 ov1 v X1 a∧ov1 a=some u∧X1.length=gg∧h1+tc f.v.length*cnt f s (X1 ++ [a])≤hi+tc f.v.length*turns f (pf s) v+6*ac f.v.length)) from fun wr a gg hm=>by
  obtain ⟨s1,ov1,X1,h1,g1,g2,g3,g4⟩:=hm
  have hl:=g2.rp.len
  have han:a<f.v.length:=g2.rp.lt (List.mem_of_head? g2.hd)
  obtain ⟨o1,o2⟩:=g1.1.over (i:=a) (by rw [hl];exact han)
  refine ⟨han,by rw [← hl];exact g1.1.cells.2,?_⟩
  cases e:ov1 a with
  | none =>
   rw [e] at o1
   exact .inl ⟨o1,md_end HVL.out g1 g2 e g4 (Nat.le_refl _)⟩
  | some u =>
   rw [e] at o1
   exact .inr ⟨u,o2,o1,s1,ov1,X1,h1,g1,g2,e,g3,g4⟩)
 have HST:=hid (fun (s1:Sp.St) (ov1:Nat→Option Nat) (wr:World) (a gg:Nat) (X1:List Nat) (h1 u:Nat) (g1:FoA F w0 wr B p q go s1 ov1 (lo+1) h1) (g2:Lp f s s1 ov1 v X1 a) (g3:ov1 a=some u) (g4:X1.length=gg) g5=>md_step (lo:=lo) (H:=hi+tc f.v.length*turns f (pf s) v+6*ac f.v.length) hB HVL.out g1 g2 g3 g4 g5)
 have HCP:=hid (show ∀ (w':World) s ov lo hi,FoA F w0 w' B p q go s ov lo hi→w'.cell? ⟨p,0,none⟩=some (.pointer (some ⟨q,0,none⟩)) from fun w' s ov lo hi hh=>hh.1.cells.1)
 clear h hr hL hc hX ha hsl n0 n1
 generalize hi+tc f.v.length*turns f (pf s) v+6*ac f.v.length=HH at *
 go_enter Tryz.func118,Tryz.ntmps118
 go_wp2_with fail
 refine HHS.out.mono ?_
 rintro e w1 ⟨rfl,rfl⟩
 go_wp2_with fail
 refine HPT.out.mono ?_
 rintro e w1 ⟨rfl,h1⟩
 obtain ⟨m0,HFC⟩:=HFS.out _ h1
 have HFC:=hid HFC
 clear h1
 go_wp2_with fail
 refine HFC.out.mono ?_
 rintro e w2 ⟨rfl,hmd⟩
 have HMD0:=hid hmd
 clear hmd m0 HFC
 go_wp2
 go_loopg [5,6] m (fun gg s5 s6 wr=>(∃ z,s6=z)∧∃ aa:Nat,s5=.int .i64 (aa:Int)∧Hid (Md F w0 wr B p q go f s lo HH v aa gg))
 case atStart=>exact ⟨⟨_,rfl⟩,a,rfl,HMD0⟩
 case round =>
  obtain ⟨⟨z6,rfl⟩,aa,rfl,HMR⟩:=hrel
  obtain ⟨haa,c1,hcase⟩:=HMD.out _ _ _ HMR.out
  have hai:(aa:Int)<(f.v.length:Int):=by omega
  have ha0:(0:Int)≤(aa:Int):=by omega
  rcases hcase with ⟨ca,hsh⟩ | ⟨u,fr,ca,s1,ov1,X1,h1,g1,g2,g3,g4,g5⟩
  ·have HSH:=hid hsh
   clear hsh
   go_wp2
   go_ret
   exact ⟨aa,rfl,HSH.out⟩
  ·obtain ⟨t1,t2,t3,a',gg',t4,t5,t6⟩:=HST.out _ _ _ _ _ _ _ _ g1 g2 g3 g4 g5
   have T1:=hid t1
   have T2:=hid t2
   have T3:=hid t3
   have T6:=hid t6
   have T4:=hid t4
   have hne:(((u:Int) != -1)=true):=by simp <;> omega
   clear t1 t2 t3 t6 t4 g1 g2 g3 g4 g5 t5
   go_wp2_with fail
   refine (T2.out _ _ _ T1.out).mono ?_
   rintro e w3 ⟨rfl,h3⟩
   obtain ⟨m0,HJ⟩:=T3.out _ _ _ h3
   have HJ:=hid HJ
   clear h3
   go_wp2_with fail
   refine HJ.out.mono ?_
   rintro e w4 ⟨rfl,lo3,hl3,h4⟩
   obtain ⟨m1,HF⟩:=T6.out _ _ _ hl3 (Nat.le_refl _) h4
   have HF:=hid HF
   clear h4 m0 HJ hl3
   go_wp2_with fail
   refine HF.out.mono ?_
   rintro e w5 ⟨rfl,h5⟩
   have H5:=hid h5
   clear h5 m1 HF
   go_wp2
   go_roundg gg'
   case measure=>have:=T4.out;omega
   case rel=>exact ⟨⟨_,rfl⟩,a',rfl,H5⟩
end
end Fo
namespace Fo
open Sp (Off Ext SpO ac jc it)
def FoO (w:World) (B:Nat) (F:Nat→Prop) (p:Nat) (f:Ft) (lo hi:Nat):Prop :=
 ∃ q go s ov h,FoP w B F p q go s ov lo h∧Rp f s ov∧h+tc f.v.length*idle f (pf s)≤hi
def fc (n:Nat):Nat:=tc n*(3*n.log2+3)+12*ac n
def ft (f:Ft) (x:Int):Nat:=if there f x then 1 else 0
theorem cost_show {t a b i i' l L A:Nat} (h:b+t*i'≤a+t*(i+2*l+1)+6*A) (hl:l≤L):b+t*i'≤a+t*i+t*(2*L+1)+6*A:=by
 have h1:t*(i+2*l+1)≤t*(i+(2*L+1)):=Nat.mul_le_mul_left t (by omega)
 rw [Nat.mul_add t i (2*L+1)] at h1
 omega
theorem cost_two {t b i i' L:Nat} (h:i'≤i+L+1):t*i'≤t*i+t*(L+1):=by
 have:=Nat.mul_le_mul_left t (show i'≤i+(L+1) by omega)
 rwa [Nat.mul_add] at this
theorem cost_a (t L:Nat):t*(2*L+1)≤t*(3*L+3):=Nat.mul_le_mul_left t (by omega)
theorem cost_b (t L:Nat):t*(2*L+1)+t*(L+1)≤t*(3*L+3):=by rw [← Nat.mul_add];exact Nat.mul_le_mul_left t (by omega)
theorem cost_c (t L:Nat):t*(2*0+1)+t*(2*L+1)+t*(L+1)=t*(3*L+3):=by rw [← Nat.mul_add,← Nat.mul_add];congr 1;omega
section
variable {F F1 G:Nat→Prop} {w w0 w2:World} {B p q go lo hi:Nat} {s:Sp.St} {ov:Nat→Option Nat} {f:Ft}
theorem FoO.off (h:FoO w B F p f lo hi) (ho:Off G w w2) (hd:∀ g,F g→¬ G g):FoO w2 B F p f lo hi:=by
 obtain ⟨q,go,s,ov,h0,h1,h2,h3⟩:=h
 exact ⟨q,go,s,ov,h0,h1.off ho hd,h2,h3⟩
theorem FoA.done {f':Ft} {lo3 hi2:Nat} (h:FoA F w w2 B p q go s ov lo hi) (hr:Rp f' s ov) (hh:hi+tc f'.v.length*idle f' (pf s)≤hi2) (hlo:lo3≤lo):FoO w2 B (Ext F w w2) p f' lo3 hi2∧Off F w w2 :=
 ⟨⟨q,go,s,ov,hi,h.1.low hlo,hr,hh⟩,h.2⟩
theorem ft_in {v:Nat} (hv:v<f.v.length):ft f (v:Int)=1:=by unfold ft;rw [if_pos (show there f (v:Int) from ⟨by omega,by omega⟩)]
theorem ft_out {x:Int} (hx:¬ (0≤x∧x<(f.v.length:Int))):ft f x=0:=by unfold ft;rw [if_neg (show ¬ there f x from hx)]
theorem rowZ_out (h:Rp f s ov) {x:Int} (hx:¬ (0≤x∧x<(f.v.length:Int))):Sp.rowZ s x=[]:=(Sp.rowZ_nil h.sg).2 (by have:=h.len;omega)
theorem pathZ_out (h:Good f) {x:Int} (hx:¬ (0≤x∧x<(f.v.length:Int))):pathZ f x=[]:=h.pathZ_nil.2 hx
theorem show_out (h:FoP w B F p q go s ov lo hi) {x:Int} (hx:¬ (0≤x∧x<(s.v.length:Int))) :
  Calls Tryz.prog 118 #[.pointer (some ⟨p,0,none⟩),.int .i64 x] w fun e w'=>e=.returned (.int .i64 (-1))∧w=w':=by
 have HHS:=hid (fhas_any h x)
 rw [decide_eq_false hx] at HHS
 clear h hx
 go_enter Tryz.func118,Tryz.ntmps118
 go_wp2_with fail
 refine HHS.out.mono ?_
 rintro e w1 ⟨rfl,rfl⟩
 go_wp2
 go_ret
 exact ⟨rfl,rfl⟩
theorem shn_cost {v r:Nat} {h0:Nat} (h:Shn F w0 w2 B p q go f s lo h0 v r) (hv:v<f.v.length) (hf:Good f) (hh:h0+tc f.v.length*idle f (pf s)≤hi) :
  ∃ s' ov' h',FoA F w0 w2 B p q go s' ov' (lo+1) h'∧Rp f s' ov'∧s'.r v=path f v∧root f v=some r∧f.up r=none∧h' + tc f.v.length*idle f (pf s')≤hi+tc f.v.length*(2*f.v.length.log2+1)+6*ac f.v.length∧(f.up v=none→h' + tc f.v.length*idle f (pf s')≤hi+tc f.v.length*(2*0+1)+6*ac f.v.length):=by
 obtain ⟨s',ov',h',g1,g2,g3,g4,g5,g6⟩:=h
 refine ⟨s',ov',h',g1,g2,g3,g4,g5,?_,fun hu=>?_⟩
 ·have:=cost_show g6 (lights_log hf hv);omega
 ·rw [lights_root hf hv hu] at g6
  have:=cost_show g6 (Nat.le_refl 0);omega
theorem froot_any (h:FoO w B F p f lo hi) (hBw:B≤w.heap.size) (x:Int) :
  Calls Tryz.prog 110 #[.pointer (some ⟨p,0,none⟩),.int .i64 x] w fun e w'=>e=.returned (.int .i64 (rootZ f x))∧FoO w' B (Ext F w w') p f (lo+ft f x) (hi+fc f.v.length)∧Off F w w':=by
 obtain ⟨q,go,s,ov,h0,h1,hr,hh⟩:=h
 have hf:=hr.fg
 have hsl:=hr.len
 by_cases hx:0≤x∧x<(f.v.length:Int)
 case neg =>
  have HS:=hid (show_out h1 (x:=x) (by rw [hsl];exact hx))
  have HA:=hid h1.start
  have HE:=hid (HA.out.done (lo3:=lo+ft f x) (hi2:=hi+fc f.v.length) hr (by omega) (by rw [ft_out hx];omega))
  have hz:rootZ f x = -1:=by unfold rootZ;rw [pathZ_out hf hx]
  rw [hz]
  clear h1 hr hh hx hf hsl HA hz
  go_enter Tryz.func110,Tryz.ntmps110
  go_wp2_with fail
  refine HS.out.mono ?_
  rintro e w1 ⟨rfl,rfl⟩
  go_wp2
  go_ret
  exact ⟨rfl,HE.out⟩
 obtain ⟨v,rfl⟩:∃ v:Nat,x=(v:Int):=⟨x.toNat,by omega⟩
 have hv:v<f.v.length:=by omega
 have HS:=hid (show_any h1.start hBw hr hv)
 have HE:=hid (show ∀ w2 r,Shn F w w2 B p q go f s lo h0 v r→rootZ f (v:Int)=(r:Int)∧FoO w2 B (Ext F w w2) p f (lo+ft f (v:Int)) (hi+fc f.v.length)∧Off F w w2 from fun w2 r hs=>by
  obtain ⟨s',ov',h',g1,g2,g3,g4,g5,g6,g7⟩:=shn_cost hs hv hf hh
  refine ⟨by
   obtain ⟨r2,k1,k2,_⟩:=hf.rootZ_eq hv
   rw [g4] at k1
   cases k1
   exact k2,g1.done g2 (by unfold fc;have:=cost_a (tc f.v.length) f.v.length.log2;omega) (by rw [ft_in hv];exact Nat.le_refl _)⟩)
 generalize rootZ f (v:Int)=Z at *
 clear h1 hr hh hx hf hsl
 go_enter Tryz.func110,Tryz.ntmps110
 go_wp2_with fail
 refine HS.out.mono ?_
 rintro e w1 ⟨r,rfl,hs⟩
 obtain ⟨rfl,hE⟩:=HE.out _ _ hs
 have HE2:=hid hE
 clear hE hs
 go_wp2
 go_ret
 exact ⟨rfl,HE2.out⟩
theorem fabove_any (h:FoO w B F p f lo hi) (hBw:B≤w.heap.size) (x:Int) :
  Calls Tryz.prog 114 #[.pointer (some ⟨p,0,none⟩),.int .i64 x] w fun e w'=>e=.returned (.int .i64 (aboveZ f x))∧FoO w' B (Ext F w w') p f (lo+ft f x) (hi+fc f.v.length)∧Off F w w':=by
 obtain ⟨q,go,s,ov,h0,h1,hr,hh⟩:=h
 have hf:=hr.fg
 have hsl:=hr.len
 by_cases hx:0≤x∧x<(f.v.length:Int)
 case neg =>
  have HS:=hid (show_out h1 (x:=x) (by rw [hsl];exact hx))
  have HA:=hid h1.start
  obtain ⟨n0,n1⟩:=h1.cells
  have HC:=hid (HA.out.call hBw (fn:=123) (args:=#[.agg #[.pointer (some ⟨q,0,none⟩)],.int .i64 x,.int .i64 (-1)]) (fun F1 k1 kb=>Sp.beside_any k1 kb x (-1) (by omega)) rfl)
  have HE:=hid (show ∀ w2 lo2,lo≤lo2→FoA F w w2 B p q go s ov lo2 (h0+3*ac s.v.length)→FoO w2 B (Ext F w w2) p f (lo+ft f x) (hi+fc f.v.length)∧Off F w w2 from fun w2 lo2 hl ha=>ha.done hr (by rw [hsl];unfold fc;omega) (by rw [ft_out hx];omega))
  have hz:aboveZ f x = -1:=by unfold aboveZ;rw [if_neg (show ¬ there f x from hx)]
  rw [hz]
  rw [show Sp.atZ s x (Sp.placeZ s x + -1) = -1 by unfold Sp.atZ;rw [rowZ_out hr hx];unfold Sp.atL;split <;> rfl] at HC
  clear h1 hr hh hx hf hsl HA hz
  go_enter Tryz.func114,Tryz.ntmps114
  go_wp2_with fail
  refine HS.out.mono ?_
  rintro e w1 ⟨rfl,rfl⟩
  go_wp2_with fail
  refine HC.out.mono ?_
  rintro e w2 ⟨rfl,h2⟩
  have HE2:=hid (HE.out _ _ (by omega) h2)
  clear h2
  go_wp2
  go_ret
  exact ⟨rfl,HE2.out⟩
 obtain ⟨v,rfl⟩:∃ v:Nat,x=(v:Int):=⟨x.toNat,by omega⟩
 have hv:v<f.v.length:=by omega
 have HS:=hid (show_any h1.start hBw hr hv)
 have HE:=hid (show ∀ w2 r,Shn F w w2 B p q go f s lo h0 v r→w2.cell? ⟨p,0,none⟩=some (.pointer (some ⟨q,0,none⟩))∧Calls Tryz.prog 123 #[.agg #[.pointer (some ⟨q,0,none⟩)],.int .i64 (v:Int),.int .i64 (-1)] w2 fun e w3=>e=.returned (.int .i64 (aboveZ f (v:Int)))∧FoO w3 B (Ext F w w3) p f (lo+ft f (v:Int)) (hi+fc f.v.length)∧Off F w w3 from fun w2 r hs=>by
  obtain ⟨s',ov',h',g1,g2,g3,g4,g5,g6,g7⟩:=shn_cost hs hv hf hh
  refine ⟨g1.1.cells.1,?_⟩
  have hc:=g1.call hBw (fn:=123) (args:=#[.agg #[.pointer (some ⟨q,0,none⟩)],.int .i64 (v:Int),.int .i64 (-1)]) (fun F1 k1 kb=>Sp.beside_any k1 kb (v:Int) (-1) (by omega)) rfl
  rw [beside_prev g2 hv g3,show oz (f.up v)=aboveZ f (v:Int) by unfold aboveZ;rw [if_pos (show there f (v:Int) from ⟨by omega,by omega⟩),Int.toNat_natCast]] at hc
  refine hc.mono ?_
  rintro e w3 ⟨h3,h4⟩
  refine ⟨h3,h4.done g2 (by rw [g2.len];unfold fc;have:=cost_a (tc f.v.length) f.v.length.log2;omega) (by rw [ft_in hv];omega)⟩)
 generalize aboveZ f (v:Int)=Z at *
 clear h1 hr hh hx hf hsl
 go_enter Tryz.func114,Tryz.ntmps114
 go_wp2_with fail
 refine HS.out.mono ?_
 rintro e w1 ⟨r,rfl,hs⟩
 obtain ⟨m0,hE⟩:=HE.out _ _ hs
 have HE2:=hid hE
 clear hE hs
 go_wp2_with fail
 refine HE2.out.mono ?_
 rintro e w2 ⟨rfl,h2⟩
 have HE3:=hid h2
 clear h2 m0
 go_wp2
 go_ret
 exact ⟨rfl,HE3.out⟩
theorem fleast_any (h:FoO w B F p f lo hi) (hBw:B≤w.heap.size) (x:Int) :
  Calls Tryz.prog 119 #[.pointer (some ⟨p,0,none⟩),.int .i64 x] w fun e w'=>e=.returned (.int .i64 (leastZ f x))∧FoO w' B (Ext F w w') p f (lo+ft f x) (hi+fc f.v.length)∧Off F w w':=by
 obtain ⟨q,go,s,ov,h0,h1,hr,hh⟩:=h
 have hf:=hr.fg
 have hsl:=hr.len
 by_cases hx:0≤x∧x<(f.v.length:Int)
 case neg =>
  have HS:=hid (show_out h1 (x:=x) (by rw [hsl];exact hx))
  have HA:=hid h1.start
  obtain ⟨n0,n1⟩:=h1.cells
  have HC:=hid (HA.out.call hBw (fn:=130) (args:=#[.pointer (some ⟨q,0,none⟩),.int .i64 x]) (fun F1 k1 kb=>Sp.dleast_c k1 kb x) rfl)
  have HE:=hid (show ∀ w2 lo2,lo≤lo2→FoA F w w2 B p q go s ov lo2 (h0+2*ac s.v.length)→FoO w2 B (Ext F w w2) p f (lo+ft f x) (hi+fc f.v.length)∧Off F w w2 from fun w2 lo2 hl ha=>ha.done hr (by rw [hsl];unfold fc;omega) (by rw [ft_out hx];omega))
  have hz:leastZ f x = -1:=by unfold leastZ;rw [pathZ_out hf hx];rfl
  rw [hz]
  rw [show Sp.leastZ s x = -1 by unfold Sp.leastZ;rw [rowZ_out hr hx];rfl] at HC
  clear h1 hr hh hx hf hsl HA hz
  go_enter Tryz.func119,Tryz.ntmps119
  go_wp2_with fail
  refine HS.out.mono ?_
  rintro e w1 ⟨rfl,rfl⟩
  go_wp2_with fail
  refine HC.out.mono ?_
  rintro e w2 ⟨rfl,h2⟩
  have HE2:=hid (HE.out _ _ (by omega) h2)
  clear h2
  go_wp2
  go_ret
  exact ⟨rfl,HE2.out⟩
 obtain ⟨v,rfl⟩:∃ v:Nat,x=(v:Int):=⟨x.toNat,by omega⟩
 have hv:v<f.v.length:=by omega
 have HS:=hid (show_any h1.start hBw hr hv)
 have HE:=hid (show ∀ w2 r,Shn F w w2 B p q go f s lo h0 v r→w2.cell? ⟨p,0,none⟩=some (.pointer (some ⟨q,0,none⟩))∧Calls Tryz.prog 130 #[.pointer (some ⟨q,0,none⟩),.int .i64 (v:Int)] w2 fun e w3=>e=.returned (.int .i64 (leastZ f (v:Int)))∧FoO w3 B (Ext F w w3) p f (lo+ft f (v:Int)) (hi+fc f.v.length)∧Off F w w3 from fun w2 r hs=>by
  obtain ⟨s',ov',h',g1,g2,g3,g4,g5,g6,g7⟩:=shn_cost hs hv hf hh
  refine ⟨g1.1.cells.1,?_⟩
  have hc:=g1.call hBw (fn:=130) (args:=#[.pointer (some ⟨q,0,none⟩),.int .i64 (v:Int)]) (fun F1 k1 kb=>Sp.dleast_c k1 kb (v:Int)) rfl
  rw [leastZ_eq g2 g3] at hc
  refine hc.mono ?_
  rintro e w3 ⟨h3,h4⟩
  refine ⟨h3,h4.done g2 (by rw [g2.len];unfold fc;have:=cost_a (tc f.v.length) f.v.length.log2;omega) (by rw [ft_in hv];omega)⟩)
 generalize leastZ f (v:Int)=Z at *
 clear h1 hr hh hx hf hsl
 go_enter Tryz.func119,Tryz.ntmps119
 go_wp2_with fail
 refine HS.out.mono ?_
 rintro e w1 ⟨r,rfl,hs⟩
 obtain ⟨m0,hE⟩:=HE.out _ _ hs
 have HE2:=hid hE
 clear hE hs
 go_wp2_with fail
 refine HE2.out.mono ?_
 rintro e w2 ⟨rfl,h2⟩
 have HE3:=hid h2
 clear h2 m0
 go_wp2
 go_ret
 exact ⟨rfl,HE3.out⟩
theorem fvalue_any (h:FoO w B F p f lo hi) (hBw:B≤w.heap.size) (x:Int) :
  Calls Tryz.prog 120 #[.pointer (some ⟨p,0,none⟩),.int .i64 x] w fun e w'=>e=.returned (.int .i64 (valZ f x))∧FoO w' B (Ext F w w') p f (lo+ft f x) (hi+fc f.v.length)∧Off F w w':=by
 obtain ⟨q,go,s,ov,h0,h1,hr,hh⟩:=h
 have hsl:=hr.len
 obtain ⟨n0,n1⟩:=h1.cells
 have HC:=hid (h1.start.call hBw (fn:=131) (args:=#[.pointer (some ⟨q,0,none⟩),.int .i64 x]) (fun F1 k1 kb=>Sp.dvalue_c k1 kb x) rfl)
 have HE:=hid (show ∀ w2,FoA F w w2 B p q go s ov (lo+it s x) (h0+ac s.v.length)→FoO w2 B (Ext F w w2) p f (lo+ft f x) (hi+fc f.v.length)∧Off F w w2 from fun w2 ha=>ha.done hr (by rw [hsl];unfold fc;omega) (by
  by_cases hx:0≤x∧x<(f.v.length:Int)
  ·obtain ⟨v,rfl⟩:∃ v:Nat,x=(v:Int):=⟨x.toNat,by omega⟩
   rw [ft_in (by omega),it_one hr.sg (by rw [hsl];omega)];exact Nat.le_refl _
  ·rw [ft_out hx];omega))
 have hz:Sp.valZ s x=valZ f x:=by unfold Sp.valZ valZ;rw [hr.val]
 rw [hz] at HC
 clear h1 hr hh hsl hz
 go_enter Tryz.func120,Tryz.ntmps120
 go_wp2_with fail
 refine HC.out.mono ?_
 rintro e w2 ⟨rfl,h2⟩
 have HE2:=hid (HE.out _ h2)
 clear h2
 go_wp2
 go_ret
 exact ⟨rfl,HE2.out⟩
theorem fsteps_any (h:FoO w B F p f lo hi) (hh2:hi≤9223372036854775807) :
  Calls Tryz.prog 108 #[.pointer (some ⟨p,0,none⟩)] w fun e w'=>∃ c:Nat,e=.returned (.int .i64 (c:Int))∧lo≤c∧c≤hi∧w=w':=by
 obtain ⟨q,go,s,ov,h0,h1,hr,hh⟩:=h
 obtain ⟨n0,n1⟩:=h1.cells
 obtain ⟨F1,h1⟩:=h1
 have HC:=hid (Sp.dsteps_any h1.spo (by omega))
 clear h1 hr
 go_enter Tryz.func108,Tryz.ntmps108
 go_wp2_with fail
 refine HC.out.mono ?_
 rintro e w2 ⟨c,rfl,hc1,hc2,rfl⟩
 have hc3:c≤hi:=by omega
 go_wp2
 go_ret
 exact ⟨c,rfl,hc1,hc3,rfl⟩
theorem fcut_any (h:FoO w B F p f lo hi) (hBw:B≤w.heap.size) (x:Int) :
  Calls Tryz.prog 124 #[.pointer (some ⟨p,0,none⟩),.int .i64 x] w fun e w'=>e=.returned (.int .i64 (cutE f x))∧FoO w' B (Ext F w w') p (cutS f x) (lo+ft f x) (hi+fc f.v.length)∧Off F w w':=by
 obtain ⟨q,go,s,ov,h0,h1,hr,hh⟩:=h
 have hf:=hr.fg
 have hsl:=hr.len
 by_cases hx:0≤x∧x<(f.v.length:Int)
 case neg =>
  have HS:=hid (show_out h1 (x:=x) (by rw [hsl];exact hx))
  have HA:=hid h1.start
  have HE:=hid (HA.out.done (lo3:=lo+ft f x) (hi2:=hi+fc f.v.length) hr (by omega) (by rw [ft_out hx];omega))
  have hz:cutE f x=4:=by unfold cutE;rw [if_pos (show ¬ there f x from hx)]
  have hz2:cutS f x=f:=by unfold cutS;rw [hz];rfl
  rw [hz,hz2]
  clear h1 hr hh hx hf hsl HA hz hz2
  go_enter Tryz.func124,Tryz.ntmps124
  go_wp2_with fail
  refine HS.out.mono ?_
  rintro e w1 ⟨rfl,rfl⟩
  go_wp2
  go_ret
  exact ⟨rfl,HE.out⟩
 obtain ⟨v,rfl⟩:∃ v:Nat,x=(v:Int):=⟨x.toNat,by omega⟩
 have hv:v<f.v.length:=by omega
 have HS:=hid (show_any h1.start hBw hr hv)
 have hth:there f (v:Int):=hx
 cases hu:f.up v with
 | none =>
  have hz:cutE f (v:Int)=9:=by unfold cutE;rw [if_neg (by simp [hth]),Int.toNat_natCast,if_pos hu]
  have hz2:cutS f (v:Int)=f:=by unfold cutS;rw [hz];rfl
  rw [hz,hz2]
  have HE:=hid (show ∀ w2 r,Shn F w w2 B p q go f s lo h0 v r→r=v∧FoO w2 B (Ext F w w2) p f (lo+ft f (v:Int)) (hi+fc f.v.length)∧Off F w w2 from fun w2 r hs=>by
   obtain ⟨s',ov',h',g1,g2,g3,g4,g5,g6,g7⟩:=shn_cost hs hv hf hh
   refine ⟨by rw [hf.root_top hv hu] at g4;cases g4;rfl,g1.done g2 (by unfold fc;have:=cost_a (tc f.v.length) f.v.length.log2;omega) (by rw [ft_in hv];exact Nat.le_refl _)⟩)
  have hvm:(((v:Int) == -1)=false):=by simp <;> omega
  clear h1 hr hh hx hf hsl hth hz hz2 hu
  go_enter Tryz.func124,Tryz.ntmps124
  go_wp2_with fail
  refine HS.out.mono ?_
  rintro e w1 ⟨r,rfl,hs⟩
  obtain ⟨rfl,hE⟩:=HE.out _ _ hs
  have HE2:=hid hE
  clear hE hs
  go_wp2
  go_ret
  exact ⟨rfl,HE2.out⟩
 | some u =>
  have hz:cutE f (v:Int)=0:=by unfold cutE;rw [if_neg (by simp [hth]),Int.toNat_natCast,if_neg (by rw [hu];simp)]
  have hz2:cutS f (v:Int)=cutF f v:=by unfold cutS;rw [hz,if_pos rfl,Int.toNat_natCast]
  rw [hz,hz2]
  have HE:=hid (show ∀ w2 r,Shn F w w2 B p q go f s lo h0 v r→r≠v∧w2.cell? ⟨p,0,none⟩=some (.pointer (some ⟨q,0,none⟩))∧Calls Tryz.prog 135 #[.pointer (some ⟨q,0,none⟩),.int .i64 (v:Int)] w2 fun e w3=>e=.returned (.int .i64 0)∧FoO w3 B (Ext F w w3) p (cutF f v) (lo+ft f (v:Int)) (hi+fc f.v.length)∧Off F w w3 from fun w2 r hs=>by
   obtain ⟨s',ov',h',g1,g2,g3,g4,g5,g6,g7⟩:=shn_cost hs hv hf hh
   refine ⟨fun c=>(by subst c;rw [g5] at hu;cases hu),g1.1.cells.1,?_⟩
   have hc:=g1.call hBw (fn:=135) (args:=#[.pointer (some ⟨q,0,none⟩),.int .i64 (v:Int)]) (fun F1 k1 kb=>Sp.dsplit_c k1 kb (v:Int)) rfl
   rw [show Sp.splitE s' (v:Int)=0 by unfold Sp.splitE;rw [Sp.rZn,if_neg (g2.sg.ne_nil (by rw [g2.len];exact hv))]] at hc
   obtain ⟨k1,k2⟩:=rp_cut g2 hv hu g3
   refine hc.mono ?_
   rintro e w3 ⟨h3,h4⟩
   refine ⟨h3,h4.done k1 ?_ (by rw [ft_in hv];omega)⟩
   rw [g2.len]
   show _+tc f.v.length*_≤_
   have:=cost_two (t:=tc f.v.length) (b:=0) k2
   have:=cost_b (tc f.v.length) f.v.length.log2
   unfold fc
   omega)
  have hvm:∀ r:Nat,(((r:Int) == -1)=false):=fun r=>by simp <;> omega
  clear h1 hr hh hx hf hsl hth hz hz2 hu
  go_enter Tryz.func124,Tryz.ntmps124
  go_wp2_with fail
  refine HS.out.mono ?_
  rintro e w1 ⟨r,rfl,hs⟩
  obtain ⟨hrv,m0,hE⟩:=HE.out _ _ hs
  have HE2:=hid hE
  have hr1:=hvm r
  have hr2:(((r:Int) == (v:Int))=false):=by simp <;> omega
  clear hE hs hvm hrv
  go_wp2_with fail
  refine HE2.out.mono ?_
  rintro e w2 ⟨rfl,h2⟩
  have HE3:=hid h2
  clear h2 m0
  go_wp2
  go_ret
  exact ⟨rfl,HE3.out⟩
theorem addS_len (f:Ft) (x d:Int):(addS f x d).v.length=f.v.length:=by
 unfold addS
 split
 ·exact Sp.addL_len _ _ _
 ·rfl
theorem sp_addS_len (s:Sp.St) (x d:Int):(Sp.addS s x d).v.length=s.v.length:=by
 unfold Sp.addS
 split
 ·exact Sp.addL_len _ _ _
 ·rfl
theorem fadd_any (h:FoO w B F p f lo hi) (hBw:B≤w.heap.size) (x d:Int) (hd:-9223372036854775808≤d∧d≤9223372036854775807) :
  Calls Tryz.prog 121 #[.pointer (some ⟨p,0,none⟩),.int .i64 x,.int .i64 d] w fun e w'=>e=.returned (.int .i64 (addE f x d))∧FoO w' B (Ext F w w') p (addS f x d) (lo+ft f x) (hi+fc f.v.length)∧Off F w w':=by
 obtain ⟨q,go,s,ov,h0,h1,hr,hh⟩:=h
 have hf:=hr.fg
 have hsl:=hr.len
 by_cases hx:0≤x∧x<(f.v.length:Int)
 case neg =>
  have HS:=hid (show_out h1 (x:=x) (by rw [hsl];exact hx))
  have HA:=hid h1.start
  obtain ⟨n0,n1⟩:=h1.cells
  have HC:=hid (HA.out.call hBw (fn:=132) (args:=#[.pointer (some ⟨q,0,none⟩),.int .i64 x,.int .i64 d]) (fun F1 k1 kb=>Sp.dadd_c k1 kb x d hd) (sp_addS_len _ _ _))
  have hs0:Sp.addE s x d=4:=by unfold Sp.addE;rw [if_pos (rowZ_out hr hx)]
  have hs1:Sp.addS s x d=s:=by unfold Sp.addS;rw [hs0];rfl
  rw [hs0,hs1] at HC
  have hz:addE f x d=4:=by unfold addE;rw [if_pos (pathZ_out hf hx)]
  have hz2:addS f x d=f:=by unfold addS;rw [hz];rfl
  rw [hz,hz2]
  have HE:=hid (show ∀ w2 lo2,lo≤lo2→FoA F w w2 B p q go s ov lo2 (h0+ac s.v.length)→FoO w2 B (Ext F w w2) p f (lo+ft f x) (hi+fc f.v.length)∧Off F w w2 from fun w2 lo2 hl ha=>ha.done hr (by rw [hsl];unfold fc;omega) (by rw [ft_out hx];omega))
  clear h1 hr hh hx hf hsl HA hz hz2 hs0 hs1 hd
  go_enter Tryz.func121,Tryz.ntmps121
  go_wp2_with fail
  refine HS.out.mono ?_
  rintro e w1 ⟨rfl,rfl⟩
  go_wp2_with fail
  refine HC.out.mono ?_
  rintro e w2 ⟨rfl,h2⟩
  have HE2:=hid (HE.out _ _ (by omega) h2)
  clear h2
  go_wp2
  go_ret
  exact ⟨rfl,HE2.out⟩
 obtain ⟨v,rfl⟩:∃ v:Nat,x=(v:Int):=⟨x.toNat,by omega⟩
 have hv:v<f.v.length:=by omega
 have HS:=hid (show_any h1.start hBw hr hv)
 have HE:=hid (show ∀ w2 r,Shn F w w2 B p q go f s lo h0 v r→w2.cell? ⟨p,0,none⟩=some (.pointer (some ⟨q,0,none⟩))∧Calls Tryz.prog 132 #[.pointer (some ⟨q,0,none⟩),.int .i64 (v:Int),.int .i64 d] w2 fun e w3=>e=.returned (.int .i64 (addE f (v:Int) d))∧FoO w3 B (Ext F w w3) p (addS f (v:Int) d) (lo+ft f (v:Int)) (hi+fc f.v.length)∧Off F w w3 from fun w2 r hs=>by
  obtain ⟨s',ov',h',g1,g2,g3,g4,g5,g6,g7⟩:=shn_cost hs hv hf hh
  refine ⟨g1.1.cells.1,?_⟩
  have hc:=g1.call hBw (fn:=132) (args:=#[.pointer (some ⟨q,0,none⟩),.int .i64 (v:Int),.int .i64 d]) (fun F1 k1 kb=>Sp.dadd_c k1 kb (v:Int) d hd) (sp_addS_len _ _ _)
  rw [addE_eq g2 g3] at hc
  obtain ⟨k1,k2⟩:=rp_add g2 g3 d
  refine hc.mono ?_
  rintro e w3 ⟨h3,h4⟩
  refine ⟨h3,h4.done k1 ?_ (by rw [ft_in hv];omega)⟩
  rw [addS_len,k2,g2.len]
  have:=cost_a (tc f.v.length) f.v.length.log2
  unfold fc
  omega)
 generalize addE f (v:Int) d=Z at *
 generalize addS f (v:Int) d=f2 at *
 clear h1 hr hh hx hf hsl
 go_enter Tryz.func121,Tryz.ntmps121
 go_wp2_with fail
 refine HS.out.mono ?_
 rintro e w1 ⟨r,rfl,hs⟩
 obtain ⟨m0,hE⟩:=HE.out _ _ hs
 have HE2:=hid hE
 clear hE hs
 go_wp2_with fail
 refine HE2.out.mono ?_
 rintro e w2 ⟨rfl,h2⟩
 have HE3:=hid h2
 clear h2 m0
 go_wp2
 go_ret
 exact ⟨rfl,HE3.out⟩
end
end Fo
namespace Fo
open Sp (Off Ext SpO ac jc it)
section
variable {F F1 G:Nat→Prop} {w w0 w2:World} {B p q go lo hi:Nat} {s:Sp.St} {ov:Nat→Option Nat} {f:Ft}
theorem flink_any (h:FoO w B F p f lo hi) (hBw:B≤w.heap.size) (x z:Int) :
  Calls Tryz.prog 122 #[.pointer (some ⟨p,0,none⟩),.int .i64 x,.int .i64 z] w fun e w'=>e=.returned (.int .i64 (linkE f x z))∧FoO w' B (Ext F w w') p (linkS f x z) (lo+ft f x*ft f z) (hi+fc f.v.length)∧Off F w w':=by
 obtain ⟨q,go,s,ov,h0,h1,hr,hh⟩:=h
 have hf:=hr.fg
 have hsl:=hr.len
 have HA:=hid h1.start
 have HX:=hid (fhas_any h1 x)
 have HZ:=hid (fhas_any h1 z)
 rw [hsl] at HX HZ
 have HMISS:=hid (show (¬ there f x∨¬ there f z)→linkE f x z=4∧FoO w B (Ext F w w) p (linkS f x z) (lo+ft f x*ft f z) (hi+fc f.v.length)∧Off F w w from fun hm=>by
  have hz:linkE f x z=4:=by unfold linkE;rw [if_pos hm]
  have hz2:linkS f x z=f:=by unfold linkS;rw [hz];rfl
  refine ⟨hz,?_⟩
  rw [hz2]
  refine HA.out.done hr (by omega) ?_
  have:ft f x*ft f z=0:=by
   rcases hm with c | c
   ·rw [ft_out c];simp
   ·rw [ft_out c];simp
  omega)
 by_cases hx:0≤x∧x<(f.v.length:Int)
 case neg =>
  rw [decide_eq_false hx] at HX
  obtain ⟨hz,hm⟩:=HMISS.out (.inl hx)
  have HE:=hid hm
  rw [hz]
  clear h1 hr hh hx hf hsl HA hz hm HZ HMISS
  go_enter Tryz.func122,Tryz.ntmps122
  go_wp2_with fail
  refine HX.out.mono ?_
  rintro e w1 ⟨rfl,rfl⟩
  go_wp2
  go_ret
  exact ⟨rfl,HE.out⟩
 by_cases hx2:0≤z∧z<(f.v.length:Int)
 case neg =>
  rw [decide_eq_true hx] at HX
  rw [decide_eq_false hx2] at HZ
  obtain ⟨hz,hm⟩:=HMISS.out (.inr hx2)
  have HE:=hid hm
  rw [hz]
  clear h1 hr hh hx hx2 hf hsl HA hz hm HMISS
  go_enter Tryz.func122,Tryz.ntmps122
  go_wp2_with fail
  refine HX.out.mono ?_
  rintro e w1 ⟨rfl,rfl⟩
  go_wp2_with fail
  refine HZ.out.mono ?_
  rintro e w1 ⟨rfl,rfl⟩
  go_wp2
  go_ret
  exact ⟨rfl,HE.out⟩
 rw [decide_eq_true hx] at HX
 rw [decide_eq_true hx2] at HZ
 have hth:¬ (¬ there f x∨¬ there f z):=by
  have:there f x:=hx
  have:there f z:=hx2
  simp [*]
 clear HMISS
 obtain ⟨v,rfl⟩:∃ v:Nat,x=(v:Int):=⟨x.toNat,by omega⟩
 obtain ⟨u,rfl⟩:∃ u:Nat,z=(u:Int):=⟨z.toNat,by omega⟩
 have hv:v<f.v.length:=by omega
 have hu:u<f.v.length:=by omega
 have HS:=hid (show_any h1.start hBw hr hv)
 have hft:ft f (v:Int)*ft f (u:Int)=1:=by rw [ft_in hv,ft_in hu]
 cases hup:f.up v with
 | some a =>
  have hz:linkE f (v:Int) (u:Int)=9:=by unfold linkE;rw [if_neg hth,Int.toNat_natCast,hup];rfl
  have hz2:linkS f (v:Int) (u:Int)=f:=by unfold linkS;rw [hz];rfl
  rw [hz,hz2]
  have HE:=hid (show ∀ w2 r,Shn F w w2 B p q go f s lo h0 v r→r≠v∧FoO w2 B (Ext F w w2) p f (lo+ft f (v:Int)*ft f (u:Int)) (hi+fc f.v.length)∧Off F w w2 from fun w2 r hs=>by
   obtain ⟨s',ov',h',g1,g2,g3,g4,g5,g6,g7⟩:=shn_cost hs hv hf hh
   refine ⟨fun c=>(by subst c;rw [g5] at hup;cases hup),g1.done g2 (by unfold fc;have:=cost_a (tc f.v.length) f.v.length.log2;omega) (by rw [hft];exact Nat.le_refl _)⟩)
  clear h1 hr hh hx hx2 hf hsl hth hz hz2 hup hft HA
  go_enter Tryz.func122,Tryz.ntmps122
  go_wp2_with fail
  refine HX.out.mono ?_
  rintro e w1 ⟨rfl,rfl⟩
  go_wp2_with fail
  refine HZ.out.mono ?_
  rintro e w1 ⟨rfl,rfl⟩
  go_wp2_with fail
  refine HS.out.mono ?_
  rintro e w1 ⟨r,rfl,hs⟩
  obtain ⟨hrv,hE⟩:=HE.out _ _ hs
  have HE2:=hid hE
  have hr2:(((r:Int) != (v:Int))=true):=by simp <;> omega
  clear hE hs hrv
  go_wp2
  go_ret
  exact ⟨rfl,HE2.out⟩
 | none =>
  have HV:=hid (show ∀ w2 r,Shn F w w2 B p q go f s lo h0 v r→r=v∧∃ s' ov' h',FoA F w w2 B p q go s' ov' (lo+1) h'∧Rp f s' ov'∧h' + tc f.v.length*idle f (pf s')≤hi+tc f.v.length*(2*0+1)+6*ac f.v.length from fun w2 r hs=>by
   obtain ⟨s',ov',h',g1,g2,g3,g4,g5,g6,g7⟩:=shn_cost hs hv hf hh
   exact ⟨by rw [hf.root_top hv hup] at g4;cases g4;rfl,s',ov',h',g1,g2,g7 hup⟩)
  have HU:=hid (show ∀ w2 s' ov' h',FoA F w w2 B p q go s' ov' (lo+1) h'→Rp f s' ov'→h' + tc f.v.length*idle f (pf s')≤hi+tc f.v.length*(2*0+1)+6*ac f.v.length →
    Calls Tryz.prog 118 #[.pointer (some ⟨p,0,none⟩),.int .i64 (u:Int)] w2 fun e w3=>∃ r:Nat,e=.returned (.int .i64 (r:Int))∧root f u=some r∧∃ s2 ov2 h2,FoA F w w3 B p q go s2 ov2 (lo+1) h2∧Rp f s2 ov2∧s2.r u=path f u∧h2+tc f.v.length*idle f (pf s2)≤hi+tc f.v.length*(2*0+1)+6*ac f.v.length+tc f.v.length*(2*f.v.length.log2+1)+6*ac f.v.length from fun w2 s' ov' h' g1 g2 g3=>by
   refine (show_any g1 hBw g2 hu).mono ?_
   rintro e w3 ⟨r,rfl,hs⟩
   obtain ⟨s2,ov2,h2,k1,k2,k3,k4,k5,k6,k7⟩:=shn_cost hs hu hf g3
   exact ⟨r,rfl,k4,s2,ov2,h2,k1.low (by omega),k2,k3,k6⟩)
  obtain ⟨rt,hrt1,hrt2,hrt3,hrt4⟩:=hf.rootZ_eq hu
  have hcc:=cost_c (tc f.v.length) f.v.length.log2
  by_cases hrv:rt=v
  ·have hz:linkE f (v:Int) (u:Int)=5:=by unfold linkE;rw [if_neg hth,Int.toNat_natCast,hup,if_neg (by simp),if_pos (by rw [hrt2,hrv])]
   have hz2:linkS f (v:Int) (u:Int)=f:=by unfold linkS;rw [hz];rfl
   rw [hz,hz2]
   have HE:=hid (show ∀ w2 r s2 ov2 h2,root f u=some r→FoA F w w2 B p q go s2 ov2 (lo+1) h2→Rp f s2 ov2→h2+tc f.v.length*idle f (pf s2)≤hi+tc f.v.length*(2*0+1)+6*ac f.v.length+tc f.v.length*(2*f.v.length.log2+1)+6*ac f.v.length→r=v∧FoO w2 B (Ext F w w2) p f (lo+ft f (v:Int)*ft f (u:Int)) (hi+fc f.v.length)∧Off F w w2 from fun w2 r s2 ov2 h2 g0 g1 g2 g3=>by
    refine ⟨by rw [hrt1] at g0;cases g0;exact hrv,g1.done g2 (by unfold fc;omega) (by rw [hft];exact Nat.le_refl _)⟩)
   clear h1 hr hh hx hx2 hf hsl hth hz hz2 hup hft HA hrt1 hrt2 hrt3 hrt4 hcc hrv
   go_enter Tryz.func122,Tryz.ntmps122
   go_wp2_with fail
   refine HX.out.mono ?_
   rintro e w1 ⟨rfl,rfl⟩
   go_wp2_with fail
   refine HZ.out.mono ?_
   rintro e w1 ⟨rfl,rfl⟩
   go_wp2_with fail
   refine HS.out.mono ?_
   rintro e w1 ⟨r,rfl,hs⟩
   obtain ⟨rfl,s',ov',h',g1,g2,g3⟩:=HV.out _ _ hs
   have HU2:=hid (HU.out _ _ _ _ g1 g2 g3)
   clear hs g1 g2 g3
   go_wp2_with fail
   refine HU2.out.mono ?_
   rintro e w2 ⟨r2,rfl,k0,s2,ov2,h2,k1,k2,k3,k4⟩
   obtain ⟨rfl,hE⟩:=HE.out _ _ _ _ _ k0 k1 k2 k4
   have HE2:=hid hE
   clear k0 k1 k2 k3 k4 hE
   go_wp2
   go_ret
   exact ⟨rfl,HE2.out⟩
  ·have hne:root f u≠some v:=fun c=>by rw [hrt1] at c;cases c;exact hrv rfl
   have hz:linkE f (v:Int) (u:Int)=0:=by unfold linkE;rw [if_neg hth,Int.toNat_natCast,hup,if_neg (by simp),if_neg (by rw [hrt2];omega)]
   have hz2:linkS f (v:Int) (u:Int)=linkF f v u:=by unfold linkS;rw [hz,if_pos rfl,Int.toNat_natCast,Int.toNat_natCast]
   rw [hz,hz2]
   have HE:=hid (show ∀ w2 r s2 ov2 h2,root f u=some r→FoA F w w2 B p q go s2 ov2 (lo+1) h2→Rp f s2 ov2→s2.r u=path f u→h2+tc f.v.length*idle f (pf s2)≤hi+tc f.v.length*(2*0+1)+6*ac f.v.length+tc f.v.length*(2*f.v.length.log2+1)+6*ac f.v.length→r≠v∧(w2.cell? ⟨p,1,none⟩=some (.slice (some ⟨go,0,none⟩) f.v.length f.v.length)∧w2.frozen? ⟨go,v,none⟩=false∧∃ x,w2.cell? ⟨go,v,none⟩=some x)∧FoO (w2.setCell ⟨go,v,none⟩ (.int .i64 (u:Int))) B (Ext F w (w2.setCell ⟨go,v,none⟩ (.int .i64 (u:Int)))) p (linkF f v u) (lo+ft f (v:Int)*ft f (u:Int)) (hi+fc f.v.length)∧Off F w (w2.setCell ⟨go,v,none⟩ (.int .i64 (u:Int))) from fun w2 r s2 ov2 h2 g0 g1 g2 g3 g4=>by
    have hl2:=g2.len
    have hov:=g1.1.over (i:=v) (by rw [hl2];exact hv)
    have hcl:=g1.1.cells.2
    rw [hl2] at hcl
    obtain ⟨k1,k2⟩:=rp_link g2 hv hu hup hne g3
    refine ⟨fun c=>(by rw [hrt1] at g0;cases g0;exact hrv c),⟨hcl,hov.2,_,hov.1⟩,(g1.put hBw (i:=v) (by rw [hl2];exact hv) (some u)).done k1 ?_ (by rw [hft];exact Nat.le_refl _)⟩
    show _+tc f.v.length*_≤_
    have:=cost_two (t:=tc f.v.length) (b:=0) k2
    unfold fc
    omega)
   have hvi:(v:Int)<(f.v.length:Int):=hx.2
   have hv0:(0:Int)≤(v:Int):=hx.1
   clear h1 hr hh hx hx2 hf hsl hth hz hz2 hup hft HA hrt1 hrt2 hrt3 hrt4 hcc hrv hne
   go_enter Tryz.func122,Tryz.ntmps122
   go_wp2_with fail
   refine HX.out.mono ?_
   rintro e w1 ⟨rfl,rfl⟩
   go_wp2_with fail
   refine HZ.out.mono ?_
   rintro e w1 ⟨rfl,rfl⟩
   go_wp2_with fail
   refine HS.out.mono ?_
   rintro e w1 ⟨r,rfl,hs⟩
   obtain ⟨rfl,s',ov',h',g1,g2,g3⟩:=HV.out _ _ hs
   have HU2:=hid (HU.out _ _ _ _ g1 g2 g3)
   clear hs g1 g2 g3
   go_wp2_with fail
   refine HU2.out.mono ?_
   rintro e w2 ⟨r2,rfl,k0,s2,ov2,h2,k1,k2,k3,k4⟩
   obtain ⟨hrv,⟨m1,m2,x0,m3⟩,hE⟩:=HE.out _ _ _ _ _ k0 k1 k2 k3 k4
   have HE2:=hid hE
   have hr2:(((r2:Int) == (r:Int))=false):=by simp <;> omega
   clear k0 k1 k2 k3 k4 hE hrv
   go_wp2
   go_ret
   exact ⟨rfl,HE2.out⟩
def preL (n i:Nat):List Int:=(List.range n).map fun j=>if j<i then -1 else 0
theorem preL_len (n i:Nat):(preL n i).length=n:=by simp [preL]
theorem preL_0 (n:Nat):preL n 0=List.replicate n 0:=by
 refine List.ext_getElem (by simp [preL]) fun k h1 h2=>?_
 simp [preL]
theorem preL_set {n i:Nat} (h:i<n):(preL n i).set i (-1)=preL n (i+1):=by
 refine List.ext_getElem (by simp [preL]) fun k h1 h2=>?_
 simp only [preL,List.getElem_set,List.getElem_map,List.getElem_range]
 by_cases c:i=k
 ·subst c;rw [if_pos rfl,if_pos (by omega)]
 ·rw [if_neg c]
  by_cases c2:k<i
  ·rw [if_pos c2,if_pos (by omega)]
  ·rw [if_neg c2,if_neg (by omega)]
theorem preL_n (n:Nat):preL n n=ovL n fun _=>none:=by
 refine List.ext_getElem (by simp [preL,ovL]) fun k h1 h2=>?_
 simp only [preL,ovL,List.getElem_map,List.getElem_range]
 rw [if_pos (by simpa [preL] using h1)]
 rfl
theorem new_lies {w1 wr:World} {vs:List Int} (hn:Sp.newE vs=0) (hb1:Below w.heap.size w w1) (h:SpO w1 w.heap.size (fun g=>w.heap.size≤g∧g<w1.heap.size) q (Sp.newS vs) 0 0) (hb:Below w1.heap.size w1 wr) (hgo:w1.heap.size<wr.heap.size) (hbx:Ne.IBox wr w1.heap.size (preL vs.length vs.length)) :
  FoO (wr.alloc (.cells #[.pointer (some ⟨q,0,none⟩),.slice (some ⟨w1.heap.size,0,none⟩) vs.length vs.length] 174)) w.heap.size (fun g=>w.heap.size≤g∧g<(wr.alloc (.cells #[.pointer (some ⟨q,0,none⟩),.slice (some ⟨w1.heap.size,0,none⟩) vs.length vs.length] 174)).heap.size) wr.heap.size (newS vs) 0 0:=by
 obtain ⟨k1,k2⟩:=rp_new hn
 have hsz:(wr.alloc (.cells #[.pointer (some ⟨q,0,none⟩),.slice (some ⟨w1.heap.size,0,none⟩) vs.length vs.length] 174)).heap.size=wr.heap.size+1:=by show (wr.heap.push _).size=_;simp
 have hs1:=hb1.size
 refine ⟨q,w1.heap.size,Sp.newS vs,fun _=>none,0,⟨fun g=>w.heap.size≤g∧g<w1.heap.size,?_,?_,(h.kept hb).kept ((Below.refl _ wr).alloc (Nat.le_refl _) _),fun g hg=>?_,⟨?_,?_⟩,⟨?_,?_,?_⟩,fun g hg=>hg⟩,k1,?_⟩
 ·show (wr.heap.push _)[wr.heap.size]? = _
  simp [Sp.newS]
 ·have:=hbx.alloc (.cells #[.pointer (some ⟨q,0,none⟩),.slice (some ⟨w1.heap.size,0,none⟩) vs.length vs.length] 174)
  rw [preL_n] at this
  exact this
 ·rw [hsz];omega
 ·rw [hsz];omega
 ·rw [hsz];omega
 ·omega
 ·omega
 ·omega
 ·rw [k2];simp
theorem fnew_any (ao:Option Addr) (cap:Nat) (vs:List Int) (w:World) (hr:Ne.IRow w ao vs) (hn:ao=none→cap=0) :
  Calls Tryz.prog 109 #[.slice ao vs.length cap] w fun e w'=>Below w.heap.size w w'∧∃ pv,e=.returned (.tuple #[pv,.int .i64 (Sp.newE vs)])∧(Sp.newE vs≠0→pv=.pointer none) ∧
   (Sp.newE vs=0→∃ p,pv=.pointer (some ⟨p,0,none⟩)∧FoO w' w.heap.size (fun g=>w.heap.size≤g∧g<w'.heap.size) p (newS vs) 0 0):=by
 have HN:=hid (Sp.dnew_c ao cap vs w hr hn)
 have HL:=hid (fun (q:Nat) (w1 wr:World) g1 g2 g3 g4 g5 g6=>new_lies (q:=q) (w:=w) (w1:=w1) (wr:=wr) (vs:=vs) g1 g2 g3 g4 g5 g6)
 have hns:Sp.newE vs=0→vs.length≤3000:=fun h=>by
  unfold Sp.newE at h
  split at h
  ·cases h
  ·omega
 generalize Sp.newE vs=Z at *
 generalize Sp.newS vs=NS at *
 generalize newS vs=NF at *
 generalize hnl:vs.length=n at *
 by_cases hz:Z=0
 case neg =>
  have hz2:((Z != 0)=true):=by simpa using hz
  have HZ:=hid hz
  clear hr hnl hns hn hz HL
  go_enter Tryz.func109,Tryz.ntmps109
  go_wp2_with fail
  refine HN.out.mono ?_
  rintro e w1 ⟨hb,pv,rfl,hp,_⟩
  obtain rfl:=hp HZ.out
  have HB:=hid hb
  clear hb hp
  go_wp2
  go_ret2
  exact ⟨HB.out,_,rfl,fun _=>rfl,fun h=>absurd h HZ.out⟩
 subst hz
 have hn3:=hns rfl
 have hmk:=Ne.make_i n (by omega)
 clear hr hnl hns hn
 go_enter Tryz.func109,Tryz.ntmps109
 go_wp2_with fail
 refine HN.out.mono ?_
 rintro e w1 ⟨hb,pv,rfl,_,hp⟩
 obtain ⟨q,rfl,hq⟩:=hp (by trivial)
 have HB1:=hid hb
 have HQ:=hid hq
 clear hb hp hq
 have HX0:=hid (show Ne.IBox (w1.alloc (.cells (madeCells #[.int .i64 0] n) 3)) w1.heap.size (preL n 0) by rw [preL_0];exact Ne.ibox_made w1 n rfl)
 have HB0:=hid ((Below.refl w1.heap.size w1).alloc (Nat.le_refl _) (.cells (madeCells #[.int .i64 0] n) 3))
 have HG0:=hid (show w1.heap.size<(w1.alloc (.cells (madeCells #[.int .i64 0] n) 3)).heap.size by show _<(w1.heap.push _).size;simp)
 go_wp2
 clear hmk
 go_loopg [7,21] n (fun gg s7 si wr=>(∃ z,s7=z)∧∃ i:Nat,si=.int .i64 i∧i+gg=n∧Hid (Ne.IBox wr w1.heap.size (preL n i))∧Hid (Below w1.heap.size w1 wr)∧Hid (w1.heap.size<wr.heap.size))
 case atStart=>exact ⟨⟨_,rfl⟩,0,rfl,by omega,HX0,HB0,HG0⟩
 case round =>
  obtain ⟨⟨z7,rfl⟩,i,rfl,hig,HX,HB,HG⟩:=hrel
  by_cases hin:i<n
  ·have hii:(i:Int)<(n:Int):=by omega
   have hi0:(0:Int)≤(i:Int):=by omega
   have c0:=HX.out.cell (i:=i) (by rw [preL_len];exact hin)
   have f0:=HX.out.frozen i
   have HX2:=hid (show Ne.IBox (wr.setCell ⟨w1.heap.size,i,none⟩ (.int .i64 (-1))) w1.heap.size (preL n (i+1)) by
    have:=HX.out.set (i:=i) (by rw [preL_len];exact hin) (-1)
    rw [preL_set hin] at this
    exact this)
   have HB2:=hid (HB.out.setCell (p:=⟨w1.heap.size,i,none⟩) (Nat.le_refl _) (.int .i64 (-1)))
   have HG2:=hid (show w1.heap.size<(wr.setCell ⟨w1.heap.size,i,none⟩ (.int .i64 (-1))).heap.size by have:=HG.out;simpa [World.setCell] using this)
   have hw1:IntKind.i64.wrap ((i:Int)+1)=((i+1:Nat):Int):=by rw [IntKind.wrap_i64];omega
   go_wp2
   go_roundg (n-(i+1))
   case measure=>omega
   case rel=>exact ⟨⟨_,rfl⟩,i+1,by rfl,by omega,HX2,HB2,HG2⟩
  ·obtain rfl:i=n:=by omega
   have HE:=hid (HL.out q w1 wr (by trivial) HB1.out HQ.out HB.out HG.out HX.out)
   have HBL:=hid ((HB1.out.trans (HB.out.mono HB1.out.size)).alloc (Nat.le_trans HB1.out.size HB.out.size) (.cells #[.pointer (some ⟨q,0,none⟩),.slice (some ⟨w1.heap.size,0,none⟩) i i] 174))
   clear HL
   go_wp2
   go_ret2
   exact ⟨HBL.out,_,rfl,fun h=>absurd rfl h,fun _=>⟨_,rfl,HE.out⟩⟩
end
end Fo
end Go.Proofs.YtoadkckceladgaaGreat
