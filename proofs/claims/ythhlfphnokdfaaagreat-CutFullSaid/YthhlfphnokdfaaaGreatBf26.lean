/-
  Fpc, Fov, Fpd, Fpe
-/
import Derived.Test.YthhlfphnokdfaaaGreatBf16
import Derived.Test.YthhlfphnokdfaaaGreatBf25
import Derived.Test.YthhlfphnokdfaaaGreatBf1
import Derived.Deep.DeepCutAuto
import Derived.WalkMore
import Derived.Test.YthhlfphnokdfaaaGreatBf15
import Derived.Deep.LoopGhost
set_option linter.unusedVariables false
set_option linter.unusedSimpArgs false
set_option maxRecDepth 100000
set_option maxHeartbeats 4000000
namespace Go.Proofs.YthhlfphnokdfaaaGreat
open Go.ChangeShapes Go.WideShapes Go.ChangeAt Go.RowKit
open Lib (hid)
namespace Sp
open Sv
section
variable {w w2 w3:World} {B p lo hi:Nat} {F G:Nat→Prop} {s:St}
theorem SpO.mono (h:SpO w B F p s lo hi) (hG:∀ g,F g→G g) (hf:∀ g,G g→B≤g∧g<w.heap.size):SpO w B G p s lo hi:=by
 obtain ⟨g,c,M,I,P,D,h1,h2,h3,h4,h5,h6,h7⟩:=h
 exact ⟨g,c,M,I,P,D,h1,h2,h3,fun k hk=>hG k (h4 k hk),hf,h6,h7⟩
theorem SpO.low {lo2:Nat} (h:SpO w B F p s lo hi) (hl:lo2≤lo):SpO w B F p s lo2 hi:=by
 obtain ⟨g,c,M,I,P,D,h1,h2,h3,h4,h5,h6,h7⟩:=h
 exact ⟨g,c,M,I,P,D,h1,h2,h3,h4,h5,Nat.le_trans hl h6,h7⟩
theorem SpO.kept (h:SpO w B F p s lo hi) (hb:Below w.heap.size w w2):SpO w2 B F p s lo hi:=h.off (G:=fun _=>False) (.of_below hb) fun _ _ c=>c
theorem placeZ_le {s:St} (h:Good s) (x:Int):-1≤placeZ s x∧placeZ s x≤3000:=by
 unfold placeZ
 split
 ·omega
 ·have h1:=rowZ_len h x
  have h2:=h.small
  have h3:(rowZ s x).idxOf x.toNat≤(rowZ s x).length:=List.idxOf_le_length
  omega
theorem SpO.after (h:SpO w3 B (Ext (Ext F w w2) w2 w3) p s lo hi) (hf:∀ g,F g→B≤g∧g<w.heap.size) (hB:B≤w.heap.size) (o1:Off F w w2) (o2:Off (Ext F w w2) w2 w3):SpO w3 B (Ext F w w3) p s lo hi∧Off F w w3 :=
 ⟨h.mono (fun g hg=>ext_two hg o1.size o2.size) (ext_in hf hB (off_two o1 o2).size),off_two o1 o2⟩
theorem ext_first {w1:World} (hb:Below w.heap.size w w1) (h:SpO w2 B (Ext F w1 w2) p s lo hi) (hf:∀ g,F g→B≤g∧g<w.heap.size) (hB:B≤w.heap.size) (o:Off F w1 w2):SpO w2 B (Ext F w w2) p s lo hi∧Off F w w2 :=
 ⟨h.mono (fun g hg=>by
  rcases hg with hg | hg
  ·exact .inl hg
  ·exact .inr ⟨by have:=hb.size;omega,hg.2⟩) (ext_in hf hB (Off.first hb o).size),Off.first hb o⟩
theorem beside_any {q:Nat} (h:SpO w B F q s lo hi) (hBw:B≤w.heap.size) (x d:Int) (hd:-10≤d∧d≤10) :
  Calls Tryz.prog 113 #[.agg #[.pointer (some ⟨q,0,none⟩)],.int .i64 x,.int .i64 d] w fun e w'=>e=.returned (.int .i64 (atZ s x (placeZ s x+d)))∧SpO w' B (Ext F w w') q s lo (hi+3*ac s.v.length)∧Off F w w':=by
 have hfin:=h.fin
 obtain ⟨w1,hw1⟩:∃ w1,w1=w.alloc (.cells #[.pointer (some ⟨q,0,none⟩)] 161):=⟨_,rfl⟩
 have hb1:Below w.heap.size w w1:=by rw [hw1];exact (Below.refl _ w).alloc (Nat.le_refl _) _
 have hbc:w1.drew.cell? ⟨w.heap.size,0,none⟩=some (.pointer (some ⟨q,0,none⟩)):=by rw [hw1];exact World.cell?_alloc_new w _ _ 0
 have hb2:Below w.heap.size w w1.drew:=Ne.below_drew hb1
 have h1:=h.kept hb2
 have hB1:B≤w1.drew.heap.size:=Nat.le_trans hBw hb2.size
 have hbx:w.heap.size<w1.drew.heap.size:=World.block_lt_of_cell? _ _ hbc
 have HPL:=hid (dplace_c h1 hB1 x)
 have hpb:=placeZ_le h.good x
 have hwr:IntKind.i64.wrap (placeZ s x+d)=placeZ s x+d:=by rw [IntKind.wrap_i64];omega
 have HAT:=hid (show ∀ w2:World,SpO w2 B (Ext F w1.drew w2) q s (lo+it s x) (hi+ac s.v.length)→Off F w1.drew w2→Calls Tryz.prog 123 #[.pointer (some ⟨q,0,none⟩),.int .i64 x,.int .i64 (placeZ s x+d)] w2 fun e w'=>e=.returned (.int .i64 (atZ s x (placeZ s x+d)))∧SpO w' B (Ext (Ext F w1.drew w2) w2 w') q s (lo+it s x+it s x) (hi+ac s.v.length+2*ac s.v.length)∧Off (Ext F w1.drew w2) w2 w' from fun w2 h2 o2=>dat_c h2 (Nat.le_trans hB1 o2.size) x _)
 have HEND:=hid (show ∀ w2 w3:World,SpO w3 B (Ext (Ext F w1.drew w2) w2 w3) q s (lo+it s x+it s x) (hi+ac s.v.length+2*ac s.v.length)→Off F w1.drew w2→Off (Ext F w1.drew w2) w2 w3→SpO w3 B (Ext F w w3) q s lo (hi+3*ac s.v.length)∧Off F w w3 from fun w2 w3 h3 o2 o3=>by
  obtain ⟨g1,g2⟩:=h3.after (fun g hg=>⟨(hfin g hg).1,Nat.lt_of_lt_of_le (hfin g hg).2 hb2.size⟩) hB1 o2 o3
  obtain ⟨g3,g4⟩:=ext_first hb2 g1 hfin hBw g2
  exact ⟨(g3.low (by omega)).grow (by omega),g4⟩)
 have hnF:¬ F w.heap.size:=fun c=>by have:=hfin _ c;omega
 generalize hbq:w.heap.size=bq at hbc hbx hnF
 have HBQ:=hid hbq
 have HKC:=hid (show ∀ (wa wb:World),wa.cell? ⟨bq,0,none⟩=some (.pointer (some ⟨q,0,none⟩))→Off F wa wb→wb.cell? ⟨bq,0,none⟩=some (.pointer (some ⟨q,0,none⟩)) from fun wa wb hc ho=>(World.cell?_of_block (w:=wa) (ho.block bq (World.block_lt_of_cell? _ _ hc) hnF)).trans hc)
 have HKC2:=hid (show ∀ (wa wb:World),wa.cell? ⟨bq,0,none⟩=some (.pointer (some ⟨q,0,none⟩))→Off (Ext F w1.drew wa) wa wb→wb.cell? ⟨bq,0,none⟩=some (.pointer (some ⟨q,0,none⟩)) from fun wa wb hc ho=>(World.cell?_of_block (w:=wa) (ho.block bq (World.block_lt_of_cell? _ _ hc) (fun c=>by
  rcases c with c | c
  ·exact hnF c
  ·omega))).trans hc)
 have HW1:=hid hw1
 generalize placeZ s x=PL at *
 generalize atZ s x (PL+d)=AT at *
 clear h h1 hb1 hb2 hB1 hfin hnF hbx hpb hBw hd hw1
 go_enter Tryz.func113,Tryz.ntmps113
 go_upto_region 1 with fail
 rw [← HW1.out]

 clear hbq
 have hS0:=(show (fun w':World=>w'.cell? ⟨bq,0,none⟩=some (.pointer (some ⟨q,0,none⟩))) w1.drew from hbc)
 refine Rh.start (S:=(fun w':World=>w'.cell? ⟨bq,0,none⟩=some (.pointer (some ⟨q,0,none⟩)))) (by kernel_rfl) ?_
 refine Rh.tp 7 0 hS0 ?_
 refine Rh.tp 8 1 hS0 ?_
 refine Rh.tp 9 2 hS0 ?_
 refine Rh.tp 10 3 hS0 ?_
 refine Rh.tp 11 4 hS0 ?_
 refine Rh.tp 12 5 hS0 ?_
 refine Rh.tp 14 7 hS0 ?_
 refine Rh.step (i:=6) (by kernel_rfl) rfl fun K' hK'=>?_
 have HK:=hid hK'
 clear hK'
 go_simp
 refine HPL.out.mono ?_
 rintro e w2 ⟨rfl,h2,o2⟩
 have H2:=hid h2
 have O2:=hid o2
 have hS1:=(show (fun w':World=>w'.cell? ⟨bq,0,none⟩=some (.pointer (some ⟨q,0,none⟩))) w2 from HKC.out _ _ hS0 o2)
 clear h2 o2
 refine HK.out _ _ ⟨hS1,?_⟩
 clear HK K'
 try simp only [Act.put,Rh.q1,Rh.q2,Rh.q3]
 refine Rh.tp 15 8 hS1 ?_
 refine Rh.step (i:=9) (by kernel_rfl) rfl fun K' hK'=>?_
 have HK:=hid hK'
 clear hK'
 go_simp
 refine (HAT.out _ H2.out O2.out).mono ?_
 rintro e w3 ⟨rfl,h3,o3⟩
 have H3:=hid h3
 have O3:=hid o3
 have hS2:=(show (fun w':World=>w'.cell? ⟨bq,0,none⟩=some (.pointer (some ⟨q,0,none⟩))) w3 from HKC2.out _ _ hS1 o3)
 clear h3 o3
 refine HK.out _ _ ⟨hS2,?_⟩
 clear HK K'
 try simp only [Act.put,Rh.q1,Rh.q2,Rh.q3]
 refine Rh.tp 6 10 hS2 ?_
 refine Rh.done (by kernel_rfl) ?_ _
 go_wp2
 go_ret
 exact ⟨rfl,HEND.out _ _ H3.out O2.out O3.out⟩
end
end Sp
end Go.Proofs.YthhlfphnokdfaaaGreat
namespace Go.Proofs.YthhlfphnokdfaaaGreat
namespace Fo
def ovL (n:Nat) (ov:Nat→Option Nat):List Int:=(List.range n).map fun i=>oz (ov i)
theorem ovL_len (n:Nat) (ov:Nat→Option Nat):(ovL n ov).length=n:=by simp [ovL]
theorem ovL_at {n i:Nat} (ov:Nat→Option Nat) (h:i<n):Ne.amt (ovL n ov) i=oz (ov i):=by simp [ovL,Ne.amt,h]
theorem ovL_set {n i:Nat} (ov:Nat→Option Nat) (h:i<n) (y:Option Nat):(ovL n ov).set i (oz y)=ovL n (fun z=>if z=i then y else ov z):=by
 refine List.ext_getElem (by simp [ovL]) fun k h1 h2=>?_
 simp only [ovL,List.getElem_set,List.getElem_map,List.getElem_range]
 by_cases c:i=k
 ·subst c;simp
 ·rw [if_neg c,if_neg (fun e=>c e.symm)]
end Fo
end Go.Proofs.YthhlfphnokdfaaaGreat
namespace Go.Proofs.YthhlfphnokdfaaaGreat
open Go.ChangeShapes Go.WideShapes Go.ChangeAt Go.RowKit
open Lib (hid)
namespace Fo
open Sp (Off Ext SpO ac jc it)
structure FoH (w:World) (B:Nat) (F:Nat→Prop) (p q go:Nat) (F1:Nat→Prop) (s:Sp.St) (ov:Nat→Option Nat) (lo hi:Nat):Prop where
 blk:w.heap[p]? = some (.cells #[.pointer (some ⟨q,0,none⟩),.slice (some ⟨go,0,none⟩) s.v.length s.v.length] 163 (0,0))
 box:Ne.IBox w go (ovL s.v.length ov)
 spo:SpO w B F1 q s lo hi
 sub:∀ g,F1 g→F g
 pin:F p∧F go
 pno:¬ F1 p∧¬ F1 go∧p≠go
 fin:∀ g,F g→B≤g∧g<w.heap.size
def FoP (w:World) (B:Nat) (F:Nat→Prop) (p q go:Nat) (s:Sp.St) (ov:Nat→Option Nat) (lo hi:Nat):Prop:=∃ F1,FoH w B F p q go F1 s ov lo hi
def FoA (F:Nat→Prop) (w0 w:World) (B p q go:Nat) (s:Sp.St) (ov:Nat→Option Nat) (lo hi:Nat):Prop:=FoP w B (Ext F w0 w) p q go s ov lo hi∧Off F w0 w
section
variable {F F1 G:Nat→Prop} {w w0 w2:World} {B p q go lo hi:Nat} {s:Sp.St} {ov:Nat→Option Nat}
theorem FoP.good (h:FoP w B F p q go s ov lo hi):Sp.Good s:=by obtain ⟨F1,h⟩:=h;exact h.spo.good
theorem FoP.cells (h:FoP w B F p q go s ov lo hi):w.cell? ⟨p,0,none⟩=some (.pointer (some ⟨q,0,none⟩))∧w.cell? ⟨p,1,none⟩=some (.slice (some ⟨go,0,none⟩) s.v.length s.v.length):=by
 obtain ⟨F1,h⟩:=h
 have:=h.blk
 simp [World.cell?,this]
theorem FoP.over (h:FoP w B F p q go s ov lo hi) {i:Nat} (hi:i<s.v.length):w.cell? ⟨go,i,none⟩=some (.int .i64 (oz (ov i)))∧w.frozen? ⟨go,i,none⟩=false:=by
 obtain ⟨F1,h⟩:=h
 have h1:=h.box.cell (i:=i) (by rw [ovL_len];exact hi)
 rw [ovL_at ov hi] at h1
 exact ⟨h1,h.box.frozen i⟩
theorem FoP.fin (h:FoP w B F p q go s ov lo hi):∀ g,F g→B≤g∧g<w.heap.size:=by obtain ⟨F1,h⟩:=h;exact h.fin
theorem FoP.mono (h:FoP w B F p q go s ov lo hi) (hG:∀ g,F g→G g) (hf:∀ g,G g→B≤g∧g<w.heap.size):FoP w B G p q go s ov lo hi:=by
 obtain ⟨F1,h⟩:=h
 exact ⟨F1,h.blk,h.box,h.spo,fun g hg=>hG g (h.sub g hg),⟨hG _ h.pin.1,hG _ h.pin.2⟩,h.pno,hf⟩
theorem FoP.low {lo2:Nat} (h:FoP w B F p q go s ov lo hi) (hl:lo2≤lo):FoP w B F p q go s ov lo2 hi:=by
 obtain ⟨F1,h⟩:=h
 exact ⟨F1,h.blk,h.box,h.spo.low hl,h.sub,h.pin,h.pno,h.fin⟩
theorem FoP.grow {hi2:Nat} (h:FoP w B F p q go s ov lo hi) (hl:hi≤hi2):FoP w B F p q go s ov lo hi2:=by
 obtain ⟨F1,h⟩:=h
 exact ⟨F1,h.blk,h.box,h.spo.grow hl,h.sub,h.pin,h.pno,h.fin⟩
theorem FoP.off (h:FoP w B F p q go s ov lo hi) (ho:Off G w w2) (hd:∀ g,F g→¬ G g):FoP w2 B F p q go s ov lo hi:=by
 obtain ⟨F1,h⟩:=h
 have hp:=h.fin p h.pin.1
 have hg:=h.fin go h.pin.2
 exact ⟨F1,(ho.block p hp.2 (hd p h.pin.1)).trans h.blk,h.box.same (ho.block go hg.2 (hd go h.pin.2)),h.spo.off ho (fun g hg=>hd g (h.sub g hg)),h.sub,h.pin,h.pno,fun g hg=>⟨(h.fin g hg).1,Nat.lt_of_lt_of_le (h.fin g hg).2 ho.size⟩⟩
theorem FoP.start (h:FoP w B F p q go s ov lo hi):FoA F w w B p q go s ov lo hi :=
 ⟨h.mono (fun g hg=>.inl hg) (fun g hg=>by
  rcases hg with hg | hg
  ·exact h.fin g hg
  ·omega),Off.refl _ _⟩
theorem FoA.low {lo2:Nat} (h:FoA F w0 w B p q go s ov lo hi) (hl:lo2≤lo):FoA F w0 w B p q go s ov lo2 hi:=⟨h.1.low hl,h.2⟩
theorem FoA.grow {hi2:Nat} (h:FoA F w0 w B p q go s ov lo hi) (hl:hi≤hi2):FoA F w0 w B p q go s ov lo hi2:=⟨h.1.grow hl,h.2⟩
theorem FoA.to {s2:Sp.St} {ov2:Nat→Option Nat} {lo2 hi2:Nat} (h:FoA F w0 w B p q go s ov lo hi) (hB:B≤w0.heap.size) (h2:FoP w2 B (Ext (Ext F w0 w) w w2) p q go s2 ov2 lo2 hi2) (ho:Off (Ext F w0 w) w w2):FoA F w0 w2 B p q go s2 ov2 lo2 hi2 :=
 ⟨h2.mono (fun g hg=>Sp.ext_two hg h.2.size ho.size) (fun g hg=>by
  have:=ho.size
  rcases hg with hg | hg
  ·have:=h.1.fin g (.inl hg);omega
  ·omega),Sp.off_two h.2 ho⟩
theorem FoA.call {fn:FuncId} {args:Array Value} {e0:Ending} {s2:Sp.St} {lo2 hi2:Nat} (h:FoA F w0 w B p q go s ov lo hi) (hB:B≤w0.heap.size)
  (hc:∀ F1,SpO w B F1 q s lo hi→B≤w.heap.size→Calls Tryz.prog fn args w fun e w'=>e=e0∧SpO w' B (Ext F1 w w') q s2 lo2 hi2∧Off F1 w w') (hl:s2.v.length=s.v.length) :
  Calls Tryz.prog fn args w fun e w'=>e=e0∧FoA F w0 w' B p q go s2 ov lo2 hi2:=by
 obtain ⟨F1,h1⟩:=h.1
 refine (hc F1 h1.spo (Nat.le_trans hB h.2.size)).mono ?_
 rintro e w' ⟨rfl,h2,o2⟩
 refine ⟨rfl,h.to hB ?_ (o2.mono h1.sub)⟩
 have hp:=h1.fin p h1.pin.1
 have hg:=h1.fin go h1.pin.2
 have hs:=o2.size
 refine ⟨Ext F1 w w',?_,?_,h2,fun g hg=>?_,⟨.inl h1.pin.1,.inl h1.pin.2⟩,⟨fun c=>?_,fun c=>?_,h1.pno.2.2⟩,fun g hg=>?_⟩
 ·rw [hl];exact (o2.block p hp.2 h1.pno.1).trans h1.blk
 ·rw [hl];exact h1.box.same (o2.block go hg.2 h1.pno.2.1)
 ·rcases hg with hg | hg
  ·exact .inl (h1.sub g hg)
  ·exact .inr hg
 ·rcases c with c | c
  ·exact h1.pno.1 c
  ·omega
 ·rcases c with c | c
  ·exact h1.pno.2.1 c
  ·omega
 ·rcases hg with hg | hg
  ·have:=h1.fin g hg;omega
  ·have:=h.2.size;omega
theorem FoA.put (h:FoA F w0 w B p q go s ov lo hi) (hB:B≤w0.heap.size) {i:Nat} (hi':i<s.v.length) (y:Option Nat):FoA F w0 (w.setCell ⟨go,i,none⟩ (.int .i64 (oz y))) B p q go s (fun z=>if z=i then y else ov z) lo hi:=by
 obtain ⟨F1,h1⟩:=h.1
 have hp:=h1.fin p h1.pin.1
 have hg:=h1.fin go h1.pin.2
 have ho:Off (fun g=>g=go) w (w.setCell ⟨go,i,none⟩ (.int .i64 (oz y))):=(Off.refl (fun g=>g=go) w).set (p:=⟨go,i,none⟩) (.inl rfl) _
 have hz:(w.setCell ⟨go,i,none⟩ (.int .i64 (oz y))).heap.size=w.heap.size:=by simp [World.setCell]
 refine h.to hB ⟨F1,(ho.block p hp.2 h1.pno.2.2).trans h1.blk,?_,h1.spo.off ho (fun g hg c=>h1.pno.2.1 (by rw [← c];exact hg)),fun g hg=>.inl (h1.sub g hg),⟨.inl h1.pin.1,.inl h1.pin.2⟩,h1.pno,fun g hg=>?_⟩ (ho.mono fun g hg=>by rw [hg];exact h1.pin.2)
 ·have:=h1.box.set (i:=i) (by rw [ovL_len];exact hi') (oz y)
  rw [ovL_set ov hi' y] at this
  exact this
 ·rcases hg with hg | hg
  ·have:=h1.fin g hg;omega
  ·omega
theorem fhas_any (h:FoP w B F p q go s ov lo hi) (x:Int) :
  Calls Tryz.prog 116 #[.pointer (some ⟨p,0,none⟩),.int .i64 x] w fun e w'=>e=.returned (.bool (decide (0≤x∧x<(s.v.length:Int))))∧w=w':=by
 obtain ⟨_,n1⟩:=h.cells
 clear h
 generalize s.v.length=n at *
 generalize hq:decide (0≤x∧x<(n:Int))=q
 by_cases c1:0≤x
 ·by_cases c2:x<(n:Int)
  ·obtain rfl:q=true:=by rw [← hq];simp [c1,c2]
   clear hq
   go_enter Tryz.func116,Tryz.ntmps116
   go_wp2
   go_ret
   exact ⟨rfl,rfl⟩
  ·obtain rfl:q=false:=by rw [← hq];simp;omega
   clear hq
   go_enter Tryz.func116,Tryz.ntmps116
   go_wp2
   go_ret
   exact ⟨rfl,rfl⟩
 ·obtain rfl:q=false:=by rw [← hq];simp;omega
  clear hq
  go_enter Tryz.func116,Tryz.ntmps116
  go_wp2
  go_ret
  exact ⟨rfl,rfl⟩
theorem part_any (h:FoA F w0 w B p q go s ov lo hi) (hB:B≤w0.heap.size) {v:Nat} (hv:v<s.v.length) :
  Calls Tryz.prog 117 #[.pointer (some ⟨p,0,none⟩),.int .i64 (v:Int)] w fun e w'=>e=.returned (.tuple #[])∧FoA F w0 w' B p q go (partS s v) (partO s ov v) lo (hi+4*ac s.v.length):=by
 obtain ⟨n0,n1⟩:=h.1.cells
 have hg:=h.1.good
 have HBS:=hid (h.call hB (fn:=113) (args:=#[.agg #[.pointer (some ⟨q,0,none⟩)],.int .i64 (v:Int),.int .i64 1]) (fun F1 h1 hb1=>Sp.beside_any h1 hb1 (v:Int) 1 (by omega)) rfl)
 rw [beside_next hg hv] at HBS
 have hxl:∀ u,nx s v=some u→u<s.v.length:=fun u hu=>hg.lt v u (List.mem_of_getElem? hu)
 cases hx:nx s v with
 | none =>
  rw [hx] at HBS
  have e1:partS s v=s:=by unfold partS;rw [hx]
  have e2:partO s ov v=ov:=by unfold partO;rw [hx]
  rw [e1,e2]
  clear e1 e2 hx hxl hg h
  simp only [oz] at HBS
  go_enter Tryz.func117,Tryz.ntmps117
  go_wp2_with fail
  refine HBS.out.mono ?_
  rintro e w1 ⟨rfl,h1⟩
  have H1:=hid (h1.grow (hi2:=hi+4*ac s.v.length) (by omega))
  clear h1
  go_wp2
  go_end0
  exact ⟨rfl,H1.out⟩
 | some u =>
  rw [hx] at HBS
  have hu:=hxl u hx
  have e1:partS s v=Sp.splitS s (u:Int):=by unfold partS;rw [hx]
  have e2:partO s ov v=fun z=>if z=u then some v else ov z:=by unfold partO;rw [hx]
  rw [e1,e2]
  simp only [oz] at HBS
  have hui:(u:Int)<(s.v.length:Int):=by omega
  have hu0:(0:Int)≤(u:Int):=by omega
  have hne:(((u:Int) != -1)=true):=by simp <;> omega
  have HCL:=hid (show ∀ (w':World) (s:Sp.St) (lo hi:Nat),FoA F w0 w' B p q go s ov lo hi→(w'.cell? ⟨p,0,none⟩=some (.pointer (some ⟨q,0,none⟩))∧w'.cell? ⟨p,1,none⟩=some (.slice (some ⟨go,0,none⟩) s.v.length s.v.length)) from fun w' s lo hi hh=>hh.1.cells)
  have HSP:=hid (show ∀ (w':World) (lo hi:Nat),FoA F w0 w' B p q go s ov lo hi→Calls Tryz.prog 125 #[.pointer (some ⟨q,0,none⟩),.int .i64 (u:Int)] w' fun e w2=>e=.returned (.int .i64 (Sp.splitE s (u:Int)))∧FoA F w0 w2 B p q go (Sp.splitS s (u:Int)) ov (lo+it s (u:Int)) (hi+ac s.v.length) from fun w' lo hi hh=>hh.call hB (fun F1 h1 hb1=>Sp.dsplit_c h1 hb1 (u:Int)) rfl)
  have HEND:=hid (show ∀ (w':World) (lo2 hi2:Nat),FoA F w0 w' B p q go (Sp.splitS s (u:Int)) ov lo2 hi2→(w'.frozen? ⟨go,u,none⟩=false∧(∃ x,w'.cell? ⟨go,u,none⟩=some x))∧(lo≤lo2→hi2≤hi+4*ac s.v.length→FoA F w0 (w'.setCell ⟨go,u,none⟩ (.int .i64 (v:Int))) B p q go (Sp.splitS s (u:Int)) (fun z=>if z=u then some v else ov z) lo (hi+4*ac s.v.length)) from fun w' lo2 hi2 hh=>⟨⟨(hh.1.over hu).2,_,(hh.1.over hu).1⟩,fun g1 g2=>((hh.put hB (i:=u) hu (some v)).low g1).grow g2⟩)
  have hsl:(Sp.splitS s (u:Int)).v=s.v:=rfl
  generalize Sp.splitS s (u:Int)=s2 at *
  generalize Sp.splitE s (u:Int)=E2 at *
  clear e1 e2 hx hxl hg h hu
  have hl2:s2.v.length=s.v.length:=by rw [hsl]
  clear hsl
  generalize hn:s.v.length=n at *
  go_enter Tryz.func117,Tryz.ntmps117
  go_wp2_with fail
  refine HBS.out.mono ?_
  rintro e w1 ⟨rfl,h1⟩
  obtain ⟨m0,m1⟩:=HCL.out _ _ _ _ h1
  have H1:=hid h1
  clear h1 n0 n1
  go_wp2_with fail
  refine (HSP.out _ _ _ H1.out).mono ?_
  rintro e w2 ⟨rfl,h2⟩
  obtain ⟨k0,k1⟩:=HCL.out _ _ _ _ h2
  rw [hl2] at k1
  obtain ⟨⟨hf,x0,hx0⟩,hput⟩:=HEND.out _ _ _ h2
  have HP:=hid (hput (by omega) (by omega))
  clear h2 hput m0 m1
  go_wp2
  go_end0
  exact ⟨rfl,HP.out⟩
end
end Fo
namespace Fo
open Sp (Off Ext SpO ac jc it)
def tc (n:Nat):Nat:=6*ac n+jc n
def Shn (F:Nat→Prop) (w0 w':World) (B p q go:Nat) (f:Ft) (s:Sp.St) (lo hi v r:Nat):Prop :=
 ∃ s' ov' h',FoA F w0 w' B p q go s' ov' (lo+1) h'∧Rp f s' ov'∧s'.r v=path f v∧root f v=some r∧f.up r=none ∧
  h' + tc f.v.length*idle f (pf s')≤hi+tc f.v.length*(idle f (pf s)+2*lights f (path f v)+1)+6*ac f.v.length
def Md (F:Nat→Prop) (w0 wr:World) (B p q go:Nat) (f:Ft) (s0:Sp.St) (lo H v a gg:Nat):Prop :=
 ∃ s ov X h,FoA F w0 wr B p q go s ov (lo+1) h∧Lp f s0 s ov v X a∧X.length=gg∧h+tc f.v.length*cnt f s0 (X ++ [a])≤H
section
variable {F F1 G:Nat→Prop} {w w0 w2:World} {B p q go lo hi:Nat} {s:Sp.St} {ov:Nat→Option Nat} {f:Ft}
theorem first_hd {s:Sp.St} {v a:Nat} (h:(s.r v).head? = some a):Sp.firstZ s (v:Int)=(a:Int):=by
 unfold Sp.firstZ
 rw [Sp.rowZ_nat]
 cases e:s.r v with
 | nil=>rw [e] at h;cases h
 | cons b l=>rw [e] at h;cases h;rfl
theorem it_one {s:Sp.St} (h:Sp.Good s) {x:Nat} (hx:x<s.v.length):it s (x:Int)=1:=by
 unfold it
 rw [Sp.rowZ_nat,if_neg (h.ne_nil hx)]
theorem md_step (hB:B≤w0.heap.size) {v a gg H:Nat} {wr:World} {X:List Nat} {s0:Sp.St} {h u:Nat} (hv:v<f.v.length) (hA:FoA F w0 wr B p q go s ov (lo+1) h) (hL:Lp f s0 s ov v X a) (hu:ov a=some u) (hg:X.length=gg) (hH:h+tc f.v.length*cnt f s0 (X ++ [a])≤H) :
  FoA F w0 (wr.setCell ⟨go,a,none⟩ (.int .i64 (-1))) B p q go s (fun z=>if z=a then none else ov z) (lo+1) h ∧
  (∀ w2:World,∀ lo2 hi2,FoA F w0 w2 B p q go s (fun z=>if z=a then none else ov z) lo2 hi2→Calls Tryz.prog 117 #[.pointer (some ⟨p,0,none⟩),.int .i64 (u:Int)] w2 fun e w'=>e=.returned (.tuple #[])∧FoA F w0 w' B p q go (partS s u) (partO s (fun z=>if z=a then none else ov z) u) lo2 (hi2+4*ac s.v.length)) ∧
  (∀ w2:World,∀ lo2 hi2,FoA F w0 w2 B p q go (partS s u) (partO s (fun z=>if z=a then none else ov z) u) lo2 hi2→w2.cell? ⟨p,0,none⟩=some (.pointer (some ⟨q,0,none⟩))∧Calls Tryz.prog 119 #[.pointer (some ⟨q,0,none⟩),.int .i64 (u:Int),.int .i64 (v:Int)] w2 fun e w'=>e=.returned (.int .i64 0)∧∃ lo3,lo2≤lo3∧FoA F w0 w' B p q go (Sp.joinS (partS s u) (u:Int) (v:Int)) (partO s (fun z=>if z=a then none else ov z) u) lo3 (hi2+jc s.v.length)) ∧
  (∃ a' gg',gg' + 1≤gg∧a' < f.v.length∧∀ w2:World,∀ lo2 hi2,lo+1≤lo2→hi2≤h+4*ac s.v.length+jc s.v.length→FoA F w0 w2 B p q go (Sp.joinS (partS s u) (u:Int) (v:Int)) (partO s (fun z=>if z=a then none else ov z) u) lo2 hi2→w2.cell? ⟨p,0,none⟩=some (.pointer (some ⟨q,0,none⟩))∧Calls Tryz.prog 118 #[.pointer (some ⟨q,0,none⟩),.int .i64 (v:Int)] w2 fun e w'=>e=.returned (.int .i64 (a':Int))∧Md F w0 w' B p q go f s0 lo H v a' gg'):=by
 obtain ⟨hun,han,X',a',hL',hc,hx⟩:=lp_step hL hu
 have hr:=hL.rp
 have hsl:=hr.len
 have hgd:=hr.sg
 have hj:Sp.joinE (partS s u) (u:Int) (v:Int)=0∧(Sp.joinS (partS s u) (u:Int) (v:Int)).v=s.v:=by
  have h1:=hL'.rp.val
  refine ⟨?_,by rw [h1];exact hr.val.symm⟩
  apply Classical.byContradiction
  intro c
  have h2:(Sp.joinS (partS s u) (u:Int) (v:Int))=partS s u:=by unfold Sp.joinS;rw [if_neg c]
  have h3:=hL'.rp.fst v
  have h4:=hL'.row
  have h5:=hL.row
  obtain ⟨A,D,e⟩:=hr.split hun
  have hav:a∈s.r v:=List.mem_of_head? hL.hd
  rw [h2] at h4
  have hvs:v∈s.r v:=hr.mem hv
  have hlen:=congrArg List.length h4
  have hlen2:=congrArg List.length h5
  simp only [List.length_append] at hlen hlen2
  have hle:((partS s u).r v).length≤(s.r v).length:=by
   rw [part_r hgd e]
   split
   ·rename_i g
    have:s.r v=s.r u:=hgd.same u v (by rw [e,show A ++ u :: D=(A ++ [u]) ++ D by simp];exact List.mem_append_left _ g)
    rw [this,e];simp
   ·split
    ·rename_i g
     have:s.r v=s.r u:=hgd.same u v (by rw [e,show A ++ u :: D=(A ++ [u]) ++ D by simp];exact List.mem_append_right _ g)
     rw [this,e];simp;omega
    ·exact Nat.le_refl _
  omega
 refine ⟨hA.put hB (i:=a) (by rw [hsl];exact han) none,fun w2 lo2 hi2 h2=>part_any h2 hB (by rw [hsl];exact hun),fun w2 lo2 hi2 h2=>⟨h2.1.cells.1,?_⟩,a',X'.length,by omega,?_,fun w2 lo2 hi2 g1 g2 h2=>⟨h2.1.cells.1,?_⟩⟩
 ·have hcl:=h2.call hB (fn:=119) (args:=#[.pointer (some ⟨q,0,none⟩),.int .i64 (u:Int),.int .i64 (v:Int)]) (fun F1 h1 hb1=>Sp.djoin_c h1 hb1 (u:Int) (v:Int)) (by rw [hj.2,partS_v])
  rw [hj.1] at hcl
  refine hcl.mono ?_
  rintro e w' ⟨h3,h4⟩
  refine ⟨h3,_,?_,by rw [partS_v] at h4;exact h4⟩
  omega
 ·exact hL'.rp.lt (List.mem_of_head? hL'.hd)
 ·have hcl:=h2.call hB (fn:=118) (args:=#[.pointer (some ⟨q,0,none⟩),.int .i64 (v:Int)]) (fun F1 h1 hb1=>Sp.dfirst_c h1 hb1 (v:Int)) rfl
  rw [first_hd hL'.hd] at hcl
  refine hcl.mono ?_
  rintro e w' ⟨h3,h4⟩
  refine ⟨h3,_,_,X',_,h4.low (by omega),hL',rfl,?_⟩
  rw [hj.2]
  have h5:=Nat.mul_le_mul_left (tc f.v.length) hc
  rw [Nat.mul_add,Nat.mul_one] at h5
  have h6:tc f.v.length=6*ac s.v.length+jc s.v.length:=by unfold tc;rw [hsl]
  omega
theorem md_end {v a H:Nat} {wr:World} {X:List Nat} {s0:Sp.St} {h:Nat} (hv:v<f.v.length) (hA:FoA F w0 wr B p q go s ov (lo+1) h) (hL:Lp f s0 s ov v X a) (hu:ov a=none) (hH:h+tc f.v.length*cnt f s0 (X ++ [a])≤H)
  (hHH:H≤hi+tc f.v.length*turns f (pf s0) v+6*ac f.v.length):Shn F w0 wr B p q go f s0 lo hi v a:=by
 obtain ⟨rfl,h1,h2,h3⟩:=lp_end hL hu
 have hc:=lp_cost hL hv h1
 refine ⟨s,ov,h,hA,hL.rp,h1,h2,h3,?_⟩
 have h5:=Nat.mul_le_mul_left (tc f.v.length) hc
 rw [Nat.mul_add,] at h5
 omega
theorem show_any (h:FoA F w0 w B p q go s ov lo hi) (hB:B≤w0.heap.size) (hr:Rp f s ov) {v:Nat} (hv:v<f.v.length) :
  Calls Tryz.prog 108 #[.pointer (some ⟨p,0,none⟩),.int .i64 (v:Int)] w fun e w'=>∃ r:Nat,e=.returned (.int .i64 (r:Int))∧Shn F w0 w' B p q go f s lo hi v r:=by
 obtain ⟨n0,n1⟩:=h.1.cells
 have hsl:=hr.len
 have HHS:=hid (fhas_any h.1 (v:Int))
 rw [show decide (0≤(v:Int)∧(v:Int)<(s.v.length:Int))=true by simp;omega] at HHS
 have HPT:=hid (part_any h hB (v:=v) (by rw [hsl];exact hv))
 obtain ⟨X,a,hL,hc,hX⟩:=lp_start hr hv
 have HFS:=hid (show ∀ (w2:World),FoA F w0 w2 B p q go (partS s v) (partO s ov v) lo (hi+4*ac s.v.length)→w2.cell? ⟨p,0,none⟩=some (.pointer (some ⟨q,0,none⟩))∧Calls Tryz.prog 118 #[.pointer (some ⟨q,0,none⟩),.int .i64 (v:Int)] w2 fun e w'=>e=.returned (.int .i64 (a:Int))∧Md F w0 w' B p q go f s lo (hi+tc f.v.length*turns f (pf s) v+6*ac f.v.length) v a X.length from fun w2 h2=>by
  refine ⟨h2.1.cells.1,?_⟩
  have hcl:=h2.call hB (fn:=118) (args:=#[.pointer (some ⟨q,0,none⟩),.int .i64 (v:Int)]) (fun F1 h1 hb1=>Sp.dfirst_c h1 hb1 (v:Int)) rfl
  rw [first_hd hL.hd,it_one (good_part s hr.sg v) (by rw [partS_v,hsl];exact hv),partS_v] at hcl
  refine hcl.mono ?_
  rintro e w' ⟨h3,h4⟩
  refine ⟨h3,_,_,X,_,h4,hL,rfl,?_⟩
  have h5:=Nat.mul_le_mul_left (tc f.v.length) hc
  rw [hsl]
  omega)
 have ha:a<f.v.length:=hL.rp.lt (List.mem_of_head? hL.hd)
 have HAL:=hid ha
 have HVL:=hid hv
 generalize hmm:X.length=m at *
 have HM:=hid hmm
 clear hmm
 have HMD:=hid (show ∀ (wr:World) (a gg:Nat),Md F w0 wr B p q go f s lo (hi+tc f.v.length*turns f (pf s) v+6*ac f.v.length) v a gg→a<f.v.length∧wr.cell? ⟨p,1,none⟩=some (.slice (some ⟨go,0,none⟩) f.v.length f.v.length)∧((wr.cell? ⟨go,a,none⟩=some (.int .i64 (-1))∧Shn F w0 wr B p q go f s lo hi v a) ∨
   (∃ u:Nat,wr.frozen? ⟨go,a,none⟩=false∧wr.cell? ⟨go,a,none⟩=some (.int .i64 (u:Int))∧∃ s1 ov1 X1 h1,FoA F w0 wr B p q go s1 ov1 (lo+1) h1∧Lp f s s1 ov1 v X1 a∧ov1 a=some u∧X1.length=gg∧h1+tc f.v.length*cnt f s (X1 ++ [a])≤hi+tc f.v.length*turns f (pf s) v+6*ac f.v.length)) from fun wr a gg hm=>by
  obtain ⟨s1,ov1,X1,h1,g1,g2,g3,g4⟩:=hm
  have hl:=g2.rp.len
  have han:a<f.v.length:=g2.rp.lt (List.mem_of_head? g2.hd)
  obtain ⟨o1,o2⟩:=g1.1.over (i:=a) (by rw [hl];exact han)
  refine ⟨han,by rw [← hl];exact g1.1.cells.2,?_⟩
  cases e:ov1 a with
  | none =>
   rw [e] at o1
   exact .inl ⟨o1,md_end HVL.out g1 g2 e g4 (Nat.le_refl _)⟩
  | some u =>
   rw [e] at o1
   exact .inr ⟨u,o2,o1,s1,ov1,X1,h1,g1,g2,e,g3,g4⟩)
 have HST:=hid (fun (s1:Sp.St) (ov1:Nat→Option Nat) (wr:World) (a gg:Nat) (X1:List Nat) (h1 u:Nat) (g1:FoA F w0 wr B p q go s1 ov1 (lo+1) h1) (g2:Lp f s s1 ov1 v X1 a) (g3:ov1 a=some u) (g4:X1.length=gg) g5=>md_step (lo:=lo) (H:=hi+tc f.v.length*turns f (pf s) v+6*ac f.v.length) hB HVL.out g1 g2 g3 g4 g5)
 have HCP:=hid (show ∀ (w':World) s ov lo hi,FoA F w0 w' B p q go s ov lo hi→w'.cell? ⟨p,0,none⟩=some (.pointer (some ⟨q,0,none⟩)) from fun w' s ov lo hi hh=>hh.1.cells.1)
 clear h hr hL hc hX ha hsl n0 n1
 generalize hi+tc f.v.length*turns f (pf s) v+6*ac f.v.length=HH at *
 go_enter Tryz.func108,Tryz.ntmps108
 go_wp2_with fail
 refine HHS.out.mono ?_
 rintro e w1 ⟨rfl,rfl⟩
 go_wp2_with fail
 refine HPT.out.mono ?_
 rintro e w1 ⟨rfl,h1⟩
 obtain ⟨m0,HFC⟩:=HFS.out _ h1
 have HFC:=hid HFC
 clear h1
 go_wp2_with fail
 refine HFC.out.mono ?_
 rintro e w2 ⟨rfl,hmd⟩
 have HMD0:=hid hmd
 clear hmd m0 HFC
 go_wp2
 go_loopg [5,6] m (fun gg s5 s6 wr=>(∃ z,s6=z)∧∃ aa:Nat,s5=.int .i64 (aa:Int)∧Hid (Md F w0 wr B p q go f s lo HH v aa gg))
 case atStart=>exact ⟨⟨_,rfl⟩,a,rfl,HMD0⟩
 case round =>
  obtain ⟨⟨z6,rfl⟩,aa,rfl,HMR⟩:=hrel
  obtain ⟨haa,c1,hcase⟩:=HMD.out _ _ _ HMR.out
  have hai:(aa:Int)<(f.v.length:Int):=by omega
  have ha0:(0:Int)≤(aa:Int):=by omega
  rcases hcase with ⟨ca,hsh⟩ | ⟨u,fr,ca,s1,ov1,X1,h1,g1,g2,g3,g4,g5⟩
  ·have HSH:=hid hsh
   clear hsh
   go_wp2
   go_ret
   exact ⟨aa,rfl,HSH.out⟩
  ·obtain ⟨t1,t2,t3,a',gg',t4,t5,t6⟩:=HST.out _ _ _ _ _ _ _ _ g1 g2 g3 g4 g5
   have T1:=hid t1
   have T2:=hid t2
   have T3:=hid t3
   have T6:=hid t6
   have T4:=hid t4
   have hne:(((u:Int) != -1)=true):=by simp <;> omega
   clear t1 t2 t3 t6 t4 g1 g2 g3 g4 g5 t5
   go_wp2_with fail
   refine (T2.out _ _ _ T1.out).mono ?_
   rintro e w3 ⟨rfl,h3⟩
   obtain ⟨m0,HJ⟩:=T3.out _ _ _ h3
   have HJ:=hid HJ
   clear h3
   go_wp2_with fail
   refine HJ.out.mono ?_
   rintro e w4 ⟨rfl,lo3,hl3,h4⟩
   obtain ⟨m1,HF⟩:=T6.out _ _ _ hl3 (Nat.le_refl _) h4
   have HF:=hid HF
   clear h4 m0 HJ hl3
   go_wp2_with fail
   refine HF.out.mono ?_
   rintro e w5 ⟨rfl,h5⟩
   have H5:=hid h5
   clear h5 m1 HF
   go_wp2
   go_roundg gg'
   case measure=>have:=T4.out;omega
   case rel=>exact ⟨⟨_,rfl⟩,a',rfl,H5⟩
end
end Fo
end Go.Proofs.YthhlfphnokdfaaaGreat
