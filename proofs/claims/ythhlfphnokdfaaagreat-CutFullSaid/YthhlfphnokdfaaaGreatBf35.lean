/-
  Tsv
-/
import Derived.Test.YthhlfphnokdfaaaGreatBf34
import Derived.Deep.LoopGhost
import Derived.Deep.DeepCutAuto
import Derived.WalkMore
import Derived.RegionTactic
import Derived.BigRegion
set_option linter.unusedVariables false
set_option linter.unusedSimpArgs false
set_option maxRecDepth 100000
set_option maxHeartbeats 4000000
namespace Go.Proofs.YthhlfphnokdfaaaGreat
open Go.ChangeShapes Go.WideShapes Go.ChangeAt Go.RowKit
open Lib (hid)
namespace Ne
open Sp (Off Ext)
open Fo (Ft FoO fc)
def topL (m i:Nat):List Int:=(List.range m).map fun j=>if j<i then 4611686018427387904 else 0
theorem topL_len (m i:Nat):(topL m i).length=m:=by simp [topL]
theorem topL_0 (m:Nat):topL m 0=List.replicate m 0:=by
 refine List.ext_getElem (by simp [topL]) fun k h1 h2=>?_
 simp [topL]
theorem topL_m (m:Nat):topL m m=List.replicate m 4611686018427387904:=by
 refine List.ext_getElem (by simp [topL]) fun k h1 h2=>?_
 simp only [topL,List.getElem_map,List.getElem_range,List.getElem_replicate]
 rw [if_pos (by simpa [topL] using h1)]
theorem topL_set {m i:Nat}:(topL m i).set i 4611686018427387904=topL m (i+1):=by
 refine List.ext_getElem (by simp [topL]) fun k h1 h2=>?_
 simp only [topL,List.getElem_set,List.getElem_map,List.getElem_range]
 by_cases c:i=k
 ·subst c;rw [if_pos rfl,if_pos (by omega)]
 ·rw [if_neg c]
  by_cases c2:k<i
  ·rw [if_pos c2,if_pos (by omega)]
  ·rw [if_neg c2,if_neg (by omega)]
theorem top_newE {m:Nat} (hm:m≤3000):Sp.newE (List.replicate m 4611686018427387904)=0:=by
 unfold Sp.newE
 rw [if_neg (by rw [List.length_replicate];omega),if_pos]
 intro i hi
 rw [List.length_replicate] at hi
 unfold amt Sp.big
 rw [List.getD_eq_getElem?_getD,List.getElem?_replicate,if_pos hi]
 simp
structure NsA (w wr:World) (nb vb cb m:Nat) (nn ns nt:Int) (av:Value) (i c:Nat):Prop where
 off:Off (fun g=>g=cb∨w.heap.size≤g) w wr
 vals:LBox wr vb (topL m i)
 cnt:wr.heap[cb]? = some (.cells #[.int .i64 (c:Int)] 147 (0,0))
 net:NetBox wr nb nn ns nt av
 lo:w.heap.size≤nb∧w.heap.size≤vb∧nb≠vb∧cb<w.heap.size
theorem NsA.count {w wr:World} {nb vb cb m:Nat} {nn ns nt:Int} {av:Value} {i c:Nat} (h:NsA w wr nb vb cb m nn ns nt av i c):NsA w (wr.setCell ⟨cb,0,none⟩ (.int .i64 ((c+1:Nat):Int))) nb vb cb m nn ns nt av i (c+1):=by
 have h0:=h.lo
 refine ⟨h.off.set (p:=⟨cb,0,none⟩) (.inl (.inl rfl)) _,LBox.far h.vals (p:=⟨cb,0,none⟩) (by show vb≠cb;omega) _,?_,netBox_other h.net (by omega),h0⟩
 simp only [World.setCell,Array.getElem?_modify,h.cnt,if_true,Option.map_some]
 rfl
theorem NsA.put {w wr:World} {nb vb cb m:Nat} {nn ns nt:Int} {av:Value} {i c:Nat} (h:NsA w wr nb vb cb m nn ns nt av i c) (hi:i<m):NsA w (wr.setCell ⟨vb,i,none⟩ (.int .i64 4611686018427387904)) nb vb cb m nn ns nt av (i+1) c:=by
 have h0:=h.lo
 have h1:=LBox.set h.vals (i:=i) (by rw [topL_len];exact hi) 4611686018427387904
 rw [topL_set] at h1
 exact ⟨h.off.set (p:=⟨vb,i,none⟩) (.inl (.inr h0.2.1)) _,h1,(Below.heap_setCell _ _ _ _ (show cb≠vb by omega)).trans h.cnt,netBox_other h.net h0.2.2.1,h0⟩
structure NsB (W wc:World) (nn ns nt x:Int) (av rv:Value) (lb ab pb sb p cb m:Nat):Prop where
 below:Below W.heap.size W wc
 ru:wc.rowIs lb 23 m (fun _=>.slice none 0 0)
 ra:wc.rowIs ab 23 m (fun _=>.slice none 0 0)
 sp:BBox wc pb (List.replicate m false)
 blk:TBlk wc sb nn ns nt av rv x (.slice (some ⟨lb,0,none⟩) m m) (.slice (some ⟨ab,0,none⟩) m m) (.slice (some ⟨pb,0,none⟩) m m) p cb
 lows:W.heap.size≤lb∧W.heap.size≤ab∧W.heap.size≤pb∧W.heap.size≤sb
 ups:lb<wc.heap.size∧ab<wc.heap.size∧pb<wc.heap.size∧sb<wc.heap.size
 ne:lb≠ab∧lb≠pb∧lb≠sb∧ab≠pb∧ab≠sb∧pb≠sb
theorem nsb_uab (W:World) (nn ns nt x:Int) (av rv:Value) (p cb m:Nat):NsB W ((((W.alloc (.cells (madeCells #[.slice none 0 0] (m)) 23)).alloc (.cells (madeCells #[.slice none 0 0] (m)) 23)).alloc (.cells (madeCells #[.bool false] (m)) 4)).alloc (.cells #[.int .i64 nn,.int .i64 ns,.int .i64 nt,av,rv,.int .i64 x,.slice (some ⟨W.heap.size,0,none⟩) m m,.slice (some ⟨W.heap.size+1,0,none⟩) m m,.slice (some ⟨W.heap.size+1+1,0,none⟩) m m,.pointer (some ⟨p,0,none⟩),.func (.func 95) #[.pointer (some ⟨cb,0,none⟩)] #[]] 153)) nn ns nt x av rv (W.heap.size) (W.heap.size+1) (W.heap.size+1+1) (W.heap.size+1+1+1) p cb m :=
 ⟨(((((Below.refl W.heap.size W).alloc (Nat.le_refl _) (.cells (madeCells #[.slice none 0 0] (m)) 23)).alloc (by simp) (.cells (madeCells #[.slice none 0 0] (m)) 23)).alloc (by simp;omega) (.cells (madeCells #[.bool false] (m)) 4)).alloc (by simp;omega) (.cells #[.int .i64 nn,.int .i64 ns,.int .i64 nt,av,rv,.int .i64 x,.slice (some ⟨W.heap.size,0,none⟩) m m,.slice (some ⟨W.heap.size+1,0,none⟩) m m,.slice (some ⟨W.heap.size+1+1,0,none⟩) m m,.pointer (some ⟨p,0,none⟩),.func (.func 95) #[.pointer (some ⟨cb,0,none⟩)] #[]] 153)),World.rowIs.alloc (World.rowIs.alloc (World.rowIs.alloc (gbox_made W m (b:=W.heap.size) (by simp)).row (.cells (madeCells #[.slice none 0 0] (m)) 23)) (.cells (madeCells #[.bool false] (m)) 4)) (.cells #[.int .i64 nn,.int .i64 ns,.int .i64 nt,av,rv,.int .i64 x,.slice (some ⟨W.heap.size,0,none⟩) m m,.slice (some ⟨W.heap.size+1,0,none⟩) m m,.slice (some ⟨W.heap.size+1+1,0,none⟩) m m,.pointer (some ⟨p,0,none⟩),.func (.func 95) #[.pointer (some ⟨cb,0,none⟩)] #[]] 153),World.rowIs.alloc (World.rowIs.alloc (gbox_made (W.alloc (.cells (madeCells #[.slice none 0 0] (m)) 23)) m (b:=W.heap.size+1) (by simp)).row (.cells (madeCells #[.bool false] (m)) 4)) (.cells #[.int .i64 nn,.int .i64 ns,.int .i64 nt,av,rv,.int .i64 x,.slice (some ⟨W.heap.size,0,none⟩) m m,.slice (some ⟨W.heap.size+1,0,none⟩) m m,.slice (some ⟨W.heap.size+1+1,0,none⟩) m m,.pointer (some ⟨p,0,none⟩),.func (.func 95) #[.pointer (some ⟨cb,0,none⟩)] #[]] 153),BBox.alloc (bbox_made ((W.alloc (.cells (madeCells #[.slice none 0 0] (m)) 23)).alloc (.cells (madeCells #[.slice none 0 0] (m)) 23)) m (b:=W.heap.size+1+1) (by simp)) (.cells #[.int .i64 nn,.int .i64 ns,.int .i64 nt,av,rv,.int .i64 x,.slice (some ⟨W.heap.size,0,none⟩) m m,.slice (some ⟨W.heap.size+1,0,none⟩) m m,.slice (some ⟨W.heap.size+1+1,0,none⟩) m m,.pointer (some ⟨p,0,none⟩),.func (.func 95) #[.pointer (some ⟨cb,0,none⟩)] #[]] 153),tblk_new (((W.alloc (.cells (madeCells #[.slice none 0 0] (m)) 23)).alloc (.cells (madeCells #[.slice none 0 0] (m)) 23)).alloc (.cells (madeCells #[.bool false] (m)) 4)) (by simp) nn ns nt x av rv _ _ _ p cb,by omega,by simp;omega,by omega⟩
theorem nsb_uba (W:World) (nn ns nt x:Int) (av rv:Value) (p cb m:Nat):NsB W ((((W.alloc (.cells (madeCells #[.slice none 0 0] (m)) 23)).alloc (.cells (madeCells #[.bool false] (m)) 4)).alloc (.cells (madeCells #[.slice none 0 0] (m)) 23)).alloc (.cells #[.int .i64 nn,.int .i64 ns,.int .i64 nt,av,rv,.int .i64 x,.slice (some ⟨W.heap.size,0,none⟩) m m,.slice (some ⟨W.heap.size+1+1,0,none⟩) m m,.slice (some ⟨W.heap.size+1,0,none⟩) m m,.pointer (some ⟨p,0,none⟩),.func (.func 95) #[.pointer (some ⟨cb,0,none⟩)] #[]] 153)) nn ns nt x av rv (W.heap.size) (W.heap.size+1+1) (W.heap.size+1) (W.heap.size+1+1+1) p cb m :=
 ⟨(((((Below.refl W.heap.size W).alloc (Nat.le_refl _) (.cells (madeCells #[.slice none 0 0] (m)) 23)).alloc (by simp) (.cells (madeCells #[.bool false] (m)) 4)).alloc (by simp;omega) (.cells (madeCells #[.slice none 0 0] (m)) 23)).alloc (by simp;omega) (.cells #[.int .i64 nn,.int .i64 ns,.int .i64 nt,av,rv,.int .i64 x,.slice (some ⟨W.heap.size,0,none⟩) m m,.slice (some ⟨W.heap.size+1+1,0,none⟩) m m,.slice (some ⟨W.heap.size+1,0,none⟩) m m,.pointer (some ⟨p,0,none⟩),.func (.func 95) #[.pointer (some ⟨cb,0,none⟩)] #[]] 153)),World.rowIs.alloc (World.rowIs.alloc (World.rowIs.alloc (gbox_made W m (b:=W.heap.size) (by simp)).row (.cells (madeCells #[.bool false] (m)) 4)) (.cells (madeCells #[.slice none 0 0] (m)) 23)) (.cells #[.int .i64 nn,.int .i64 ns,.int .i64 nt,av,rv,.int .i64 x,.slice (some ⟨W.heap.size,0,none⟩) m m,.slice (some ⟨W.heap.size+1+1,0,none⟩) m m,.slice (some ⟨W.heap.size+1,0,none⟩) m m,.pointer (some ⟨p,0,none⟩),.func (.func 95) #[.pointer (some ⟨cb,0,none⟩)] #[]] 153),World.rowIs.alloc (gbox_made ((W.alloc (.cells (madeCells #[.slice none 0 0] (m)) 23)).alloc (.cells (madeCells #[.bool false] (m)) 4)) m (b:=W.heap.size+1+1) (by simp)).row (.cells #[.int .i64 nn,.int .i64 ns,.int .i64 nt,av,rv,.int .i64 x,.slice (some ⟨W.heap.size,0,none⟩) m m,.slice (some ⟨W.heap.size+1+1,0,none⟩) m m,.slice (some ⟨W.heap.size+1,0,none⟩) m m,.pointer (some ⟨p,0,none⟩),.func (.func 95) #[.pointer (some ⟨cb,0,none⟩)] #[]] 153),BBox.alloc (BBox.alloc (bbox_made (W.alloc (.cells (madeCells #[.slice none 0 0] (m)) 23)) m (b:=W.heap.size+1) (by simp)) (.cells (madeCells #[.slice none 0 0] (m)) 23)) (.cells #[.int .i64 nn,.int .i64 ns,.int .i64 nt,av,rv,.int .i64 x,.slice (some ⟨W.heap.size,0,none⟩) m m,.slice (some ⟨W.heap.size+1+1,0,none⟩) m m,.slice (some ⟨W.heap.size+1,0,none⟩) m m,.pointer (some ⟨p,0,none⟩),.func (.func 95) #[.pointer (some ⟨cb,0,none⟩)] #[]] 153),tblk_new (((W.alloc (.cells (madeCells #[.slice none 0 0] (m)) 23)).alloc (.cells (madeCells #[.bool false] (m)) 4)).alloc (.cells (madeCells #[.slice none 0 0] (m)) 23)) (by simp) nn ns nt x av rv _ _ _ p cb,by omega,by simp;omega,by omega⟩
theorem nsb_aub (W:World) (nn ns nt x:Int) (av rv:Value) (p cb m:Nat):NsB W ((((W.alloc (.cells (madeCells #[.slice none 0 0] (m)) 23)).alloc (.cells (madeCells #[.slice none 0 0] (m)) 23)).alloc (.cells (madeCells #[.bool false] (m)) 4)).alloc (.cells #[.int .i64 nn,.int .i64 ns,.int .i64 nt,av,rv,.int .i64 x,.slice (some ⟨W.heap.size+1,0,none⟩) m m,.slice (some ⟨W.heap.size,0,none⟩) m m,.slice (some ⟨W.heap.size+1+1,0,none⟩) m m,.pointer (some ⟨p,0,none⟩),.func (.func 95) #[.pointer (some ⟨cb,0,none⟩)] #[]] 153)) nn ns nt x av rv (W.heap.size+1) (W.heap.size) (W.heap.size+1+1) (W.heap.size+1+1+1) p cb m :=
 ⟨(((((Below.refl W.heap.size W).alloc (Nat.le_refl _) (.cells (madeCells #[.slice none 0 0] (m)) 23)).alloc (by simp) (.cells (madeCells #[.slice none 0 0] (m)) 23)).alloc (by simp;omega) (.cells (madeCells #[.bool false] (m)) 4)).alloc (by simp;omega) (.cells #[.int .i64 nn,.int .i64 ns,.int .i64 nt,av,rv,.int .i64 x,.slice (some ⟨W.heap.size+1,0,none⟩) m m,.slice (some ⟨W.heap.size,0,none⟩) m m,.slice (some ⟨W.heap.size+1+1,0,none⟩) m m,.pointer (some ⟨p,0,none⟩),.func (.func 95) #[.pointer (some ⟨cb,0,none⟩)] #[]] 153)),World.rowIs.alloc (World.rowIs.alloc (gbox_made (W.alloc (.cells (madeCells #[.slice none 0 0] (m)) 23)) m (b:=W.heap.size+1) (by simp)).row (.cells (madeCells #[.bool false] (m)) 4)) (.cells #[.int .i64 nn,.int .i64 ns,.int .i64 nt,av,rv,.int .i64 x,.slice (some ⟨W.heap.size+1,0,none⟩) m m,.slice (some ⟨W.heap.size,0,none⟩) m m,.slice (some ⟨W.heap.size+1+1,0,none⟩) m m,.pointer (some ⟨p,0,none⟩),.func (.func 95) #[.pointer (some ⟨cb,0,none⟩)] #[]] 153),World.rowIs.alloc (World.rowIs.alloc (World.rowIs.alloc (gbox_made W m (b:=W.heap.size) (by simp)).row (.cells (madeCells #[.slice none 0 0] (m)) 23)) (.cells (madeCells #[.bool false] (m)) 4)) (.cells #[.int .i64 nn,.int .i64 ns,.int .i64 nt,av,rv,.int .i64 x,.slice (some ⟨W.heap.size+1,0,none⟩) m m,.slice (some ⟨W.heap.size,0,none⟩) m m,.slice (some ⟨W.heap.size+1+1,0,none⟩) m m,.pointer (some ⟨p,0,none⟩),.func (.func 95) #[.pointer (some ⟨cb,0,none⟩)] #[]] 153),BBox.alloc (bbox_made ((W.alloc (.cells (madeCells #[.slice none 0 0] (m)) 23)).alloc (.cells (madeCells #[.slice none 0 0] (m)) 23)) m (b:=W.heap.size+1+1) (by simp)) (.cells #[.int .i64 nn,.int .i64 ns,.int .i64 nt,av,rv,.int .i64 x,.slice (some ⟨W.heap.size+1,0,none⟩) m m,.slice (some ⟨W.heap.size,0,none⟩) m m,.slice (some ⟨W.heap.size+1+1,0,none⟩) m m,.pointer (some ⟨p,0,none⟩),.func (.func 95) #[.pointer (some ⟨cb,0,none⟩)] #[]] 153),tblk_new (((W.alloc (.cells (madeCells #[.slice none 0 0] (m)) 23)).alloc (.cells (madeCells #[.slice none 0 0] (m)) 23)).alloc (.cells (madeCells #[.bool false] (m)) 4)) (by simp) nn ns nt x av rv _ _ _ p cb,by omega,by simp;omega,by omega⟩
theorem nsb_abu (W:World) (nn ns nt x:Int) (av rv:Value) (p cb m:Nat):NsB W ((((W.alloc (.cells (madeCells #[.slice none 0 0] (m)) 23)).alloc (.cells (madeCells #[.bool false] (m)) 4)).alloc (.cells (madeCells #[.slice none 0 0] (m)) 23)).alloc (.cells #[.int .i64 nn,.int .i64 ns,.int .i64 nt,av,rv,.int .i64 x,.slice (some ⟨W.heap.size+1+1,0,none⟩) m m,.slice (some ⟨W.heap.size,0,none⟩) m m,.slice (some ⟨W.heap.size+1,0,none⟩) m m,.pointer (some ⟨p,0,none⟩),.func (.func 95) #[.pointer (some ⟨cb,0,none⟩)] #[]] 153)) nn ns nt x av rv (W.heap.size+1+1) (W.heap.size) (W.heap.size+1) (W.heap.size+1+1+1) p cb m :=
 ⟨(((((Below.refl W.heap.size W).alloc (Nat.le_refl _) (.cells (madeCells #[.slice none 0 0] (m)) 23)).alloc (by simp) (.cells (madeCells #[.bool false] (m)) 4)).alloc (by simp;omega) (.cells (madeCells #[.slice none 0 0] (m)) 23)).alloc (by simp;omega) (.cells #[.int .i64 nn,.int .i64 ns,.int .i64 nt,av,rv,.int .i64 x,.slice (some ⟨W.heap.size+1+1,0,none⟩) m m,.slice (some ⟨W.heap.size,0,none⟩) m m,.slice (some ⟨W.heap.size+1,0,none⟩) m m,.pointer (some ⟨p,0,none⟩),.func (.func 95) #[.pointer (some ⟨cb,0,none⟩)] #[]] 153)),World.rowIs.alloc (gbox_made ((W.alloc (.cells (madeCells #[.slice none 0 0] (m)) 23)).alloc (.cells (madeCells #[.bool false] (m)) 4)) m (b:=W.heap.size+1+1) (by simp)).row (.cells #[.int .i64 nn,.int .i64 ns,.int .i64 nt,av,rv,.int .i64 x,.slice (some ⟨W.heap.size+1+1,0,none⟩) m m,.slice (some ⟨W.heap.size,0,none⟩) m m,.slice (some ⟨W.heap.size+1,0,none⟩) m m,.pointer (some ⟨p,0,none⟩),.func (.func 95) #[.pointer (some ⟨cb,0,none⟩)] #[]] 153),World.rowIs.alloc (World.rowIs.alloc (World.rowIs.alloc (gbox_made W m (b:=W.heap.size) (by simp)).row (.cells (madeCells #[.bool false] (m)) 4)) (.cells (madeCells #[.slice none 0 0] (m)) 23)) (.cells #[.int .i64 nn,.int .i64 ns,.int .i64 nt,av,rv,.int .i64 x,.slice (some ⟨W.heap.size+1+1,0,none⟩) m m,.slice (some ⟨W.heap.size,0,none⟩) m m,.slice (some ⟨W.heap.size+1,0,none⟩) m m,.pointer (some ⟨p,0,none⟩),.func (.func 95) #[.pointer (some ⟨cb,0,none⟩)] #[]] 153),BBox.alloc (BBox.alloc (bbox_made (W.alloc (.cells (madeCells #[.slice none 0 0] (m)) 23)) m (b:=W.heap.size+1) (by simp)) (.cells (madeCells #[.slice none 0 0] (m)) 23)) (.cells #[.int .i64 nn,.int .i64 ns,.int .i64 nt,av,rv,.int .i64 x,.slice (some ⟨W.heap.size+1+1,0,none⟩) m m,.slice (some ⟨W.heap.size,0,none⟩) m m,.slice (some ⟨W.heap.size+1,0,none⟩) m m,.pointer (some ⟨p,0,none⟩),.func (.func 95) #[.pointer (some ⟨cb,0,none⟩)] #[]] 153),tblk_new (((W.alloc (.cells (madeCells #[.slice none 0 0] (m)) 23)).alloc (.cells (madeCells #[.bool false] (m)) 4)).alloc (.cells (madeCells #[.slice none 0 0] (m)) 23)) (by simp) nn ns nt x av rv _ _ _ p cb,by omega,by simp;omega,by omega⟩
theorem nsb_bua (W:World) (nn ns nt x:Int) (av rv:Value) (p cb m:Nat):NsB W ((((W.alloc (.cells (madeCells #[.bool false] (m)) 4)).alloc (.cells (madeCells #[.slice none 0 0] (m)) 23)).alloc (.cells (madeCells #[.slice none 0 0] (m)) 23)).alloc (.cells #[.int .i64 nn,.int .i64 ns,.int .i64 nt,av,rv,.int .i64 x,.slice (some ⟨W.heap.size+1,0,none⟩) m m,.slice (some ⟨W.heap.size+1+1,0,none⟩) m m,.slice (some ⟨W.heap.size,0,none⟩) m m,.pointer (some ⟨p,0,none⟩),.func (.func 95) #[.pointer (some ⟨cb,0,none⟩)] #[]] 153)) nn ns nt x av rv (W.heap.size+1) (W.heap.size+1+1) (W.heap.size) (W.heap.size+1+1+1) p cb m :=
 ⟨(((((Below.refl W.heap.size W).alloc (Nat.le_refl _) (.cells (madeCells #[.bool false] (m)) 4)).alloc (by simp) (.cells (madeCells #[.slice none 0 0] (m)) 23)).alloc (by simp;omega) (.cells (madeCells #[.slice none 0 0] (m)) 23)).alloc (by simp;omega) (.cells #[.int .i64 nn,.int .i64 ns,.int .i64 nt,av,rv,.int .i64 x,.slice (some ⟨W.heap.size+1,0,none⟩) m m,.slice (some ⟨W.heap.size+1+1,0,none⟩) m m,.slice (some ⟨W.heap.size,0,none⟩) m m,.pointer (some ⟨p,0,none⟩),.func (.func 95) #[.pointer (some ⟨cb,0,none⟩)] #[]] 153)),World.rowIs.alloc (World.rowIs.alloc (gbox_made (W.alloc (.cells (madeCells #[.bool false] (m)) 4)) m (b:=W.heap.size+1) (by simp)).row (.cells (madeCells #[.slice none 0 0] (m)) 23)) (.cells #[.int .i64 nn,.int .i64 ns,.int .i64 nt,av,rv,.int .i64 x,.slice (some ⟨W.heap.size+1,0,none⟩) m m,.slice (some ⟨W.heap.size+1+1,0,none⟩) m m,.slice (some ⟨W.heap.size,0,none⟩) m m,.pointer (some ⟨p,0,none⟩),.func (.func 95) #[.pointer (some ⟨cb,0,none⟩)] #[]] 153),World.rowIs.alloc (gbox_made ((W.alloc (.cells (madeCells #[.bool false] (m)) 4)).alloc (.cells (madeCells #[.slice none 0 0] (m)) 23)) m (b:=W.heap.size+1+1) (by simp)).row (.cells #[.int .i64 nn,.int .i64 ns,.int .i64 nt,av,rv,.int .i64 x,.slice (some ⟨W.heap.size+1,0,none⟩) m m,.slice (some ⟨W.heap.size+1+1,0,none⟩) m m,.slice (some ⟨W.heap.size,0,none⟩) m m,.pointer (some ⟨p,0,none⟩),.func (.func 95) #[.pointer (some ⟨cb,0,none⟩)] #[]] 153),BBox.alloc (BBox.alloc (BBox.alloc (bbox_made W m (b:=W.heap.size) (by simp)) (.cells (madeCells #[.slice none 0 0] (m)) 23)) (.cells (madeCells #[.slice none 0 0] (m)) 23)) (.cells #[.int .i64 nn,.int .i64 ns,.int .i64 nt,av,rv,.int .i64 x,.slice (some ⟨W.heap.size+1,0,none⟩) m m,.slice (some ⟨W.heap.size+1+1,0,none⟩) m m,.slice (some ⟨W.heap.size,0,none⟩) m m,.pointer (some ⟨p,0,none⟩),.func (.func 95) #[.pointer (some ⟨cb,0,none⟩)] #[]] 153),tblk_new (((W.alloc (.cells (madeCells #[.bool false] (m)) 4)).alloc (.cells (madeCells #[.slice none 0 0] (m)) 23)).alloc (.cells (madeCells #[.slice none 0 0] (m)) 23)) (by simp) nn ns nt x av rv _ _ _ p cb,by omega,by simp;omega,by omega⟩
theorem nsb_bau (W:World) (nn ns nt x:Int) (av rv:Value) (p cb m:Nat):NsB W ((((W.alloc (.cells (madeCells #[.bool false] (m)) 4)).alloc (.cells (madeCells #[.slice none 0 0] (m)) 23)).alloc (.cells (madeCells #[.slice none 0 0] (m)) 23)).alloc (.cells #[.int .i64 nn,.int .i64 ns,.int .i64 nt,av,rv,.int .i64 x,.slice (some ⟨W.heap.size+1+1,0,none⟩) m m,.slice (some ⟨W.heap.size+1,0,none⟩) m m,.slice (some ⟨W.heap.size,0,none⟩) m m,.pointer (some ⟨p,0,none⟩),.func (.func 95) #[.pointer (some ⟨cb,0,none⟩)] #[]] 153)) nn ns nt x av rv (W.heap.size+1+1) (W.heap.size+1) (W.heap.size) (W.heap.size+1+1+1) p cb m :=
 ⟨(((((Below.refl W.heap.size W).alloc (Nat.le_refl _) (.cells (madeCells #[.bool false] (m)) 4)).alloc (by simp) (.cells (madeCells #[.slice none 0 0] (m)) 23)).alloc (by simp;omega) (.cells (madeCells #[.slice none 0 0] (m)) 23)).alloc (by simp;omega) (.cells #[.int .i64 nn,.int .i64 ns,.int .i64 nt,av,rv,.int .i64 x,.slice (some ⟨W.heap.size+1+1,0,none⟩) m m,.slice (some ⟨W.heap.size+1,0,none⟩) m m,.slice (some ⟨W.heap.size,0,none⟩) m m,.pointer (some ⟨p,0,none⟩),.func (.func 95) #[.pointer (some ⟨cb,0,none⟩)] #[]] 153)),World.rowIs.alloc (gbox_made ((W.alloc (.cells (madeCells #[.bool false] (m)) 4)).alloc (.cells (madeCells #[.slice none 0 0] (m)) 23)) m (b:=W.heap.size+1+1) (by simp)).row (.cells #[.int .i64 nn,.int .i64 ns,.int .i64 nt,av,rv,.int .i64 x,.slice (some ⟨W.heap.size+1+1,0,none⟩) m m,.slice (some ⟨W.heap.size+1,0,none⟩) m m,.slice (some ⟨W.heap.size,0,none⟩) m m,.pointer (some ⟨p,0,none⟩),.func (.func 95) #[.pointer (some ⟨cb,0,none⟩)] #[]] 153),World.rowIs.alloc (World.rowIs.alloc (gbox_made (W.alloc (.cells (madeCells #[.bool false] (m)) 4)) m (b:=W.heap.size+1) (by simp)).row (.cells (madeCells #[.slice none 0 0] (m)) 23)) (.cells #[.int .i64 nn,.int .i64 ns,.int .i64 nt,av,rv,.int .i64 x,.slice (some ⟨W.heap.size+1+1,0,none⟩) m m,.slice (some ⟨W.heap.size+1,0,none⟩) m m,.slice (some ⟨W.heap.size,0,none⟩) m m,.pointer (some ⟨p,0,none⟩),.func (.func 95) #[.pointer (some ⟨cb,0,none⟩)] #[]] 153),BBox.alloc (BBox.alloc (BBox.alloc (bbox_made W m (b:=W.heap.size) (by simp)) (.cells (madeCells #[.slice none 0 0] (m)) 23)) (.cells (madeCells #[.slice none 0 0] (m)) 23)) (.cells #[.int .i64 nn,.int .i64 ns,.int .i64 nt,av,rv,.int .i64 x,.slice (some ⟨W.heap.size+1+1,0,none⟩) m m,.slice (some ⟨W.heap.size+1,0,none⟩) m m,.slice (some ⟨W.heap.size,0,none⟩) m m,.pointer (some ⟨p,0,none⟩),.func (.func 95) #[.pointer (some ⟨cb,0,none⟩)] #[]] 153),tblk_new (((W.alloc (.cells (madeCells #[.bool false] (m)) 4)).alloc (.cells (madeCells #[.slice none 0 0] (m)) 23)).alloc (.cells (madeCells #[.slice none 0 0] (m)) 23)) (by simp) nn ns nt x av rv _ _ _ p cb,by omega,by simp;omega,by omega⟩

section
variable {n:Net} {ao:Option Addr} {cap:Nat} {x:Int} {w0 w wr wB W wc:World} {sb lb ab pb cb p:Nat} {rv:Value} {nb vb m:Nat} {lo':Option Addr} {lc:Nat} {TL:List Nat} {RL0:List Int} {F0:Ft} {c:Nat}
theorem ns_start (hrow:ARow w0 ao n.l) (hlow:Below w0.heap.size w0 w) (hrooms:OwnL w w0.heap.size rv RL0) (hlv:OwnI w w0.heap.size (.slice lo' TL.length lc) (encW TL)) (hcb:w0.heap.size≤cb) (hrvb:∀ g,rv.ownBlock=some g→w0.heap.size≤g∧g<cb) (hlvb:∀ g,(Value.slice lo' TL.length lc).ownBlock=some g→g<cb∧rv.ownBlock≠some g)
  (HA:NsA w wr w.heap.size vb cb m n.n n.s n.t (.slice ao n.l.length cap) m c) (hb:Below wr.heap.size wr wB) (hf:FoO wB wr.heap.size (fun g=>wr.heap.size≤g∧g<wB.heap.size) p F0 0 0) (hnb:NetBox wB nb n.n n.s n.t (.slice ao n.l.length cap)) (hnbe:nb=w.heap.size) (hw:W.heap.size=wB.heap.size) (hbW:Below wB.heap.size wB W) (hm:m=n.n.toNat+1)
  (hn:NsB W wc n.n n.s n.t x (.slice ao n.l.length cap) rv lb ab pb sb p cb (n.n.toNat+1)) :
  NsJ n ao cap x w0 sb lb ab pb cb p rv wc.heap.size wr.heap.size wB.heap.size nb lo' lc TL RL0 F0 wc c (fun _=>[]) (fun _=>[]) (fun _=>.slice none 0 0) (fun _=>.slice none 0 0):=by
 have h0:=HA.lo
 have s1:=hlow.size;have s2:=HA.off.size;have s3:=hb.size;have s4:=hn.below.size
 have hnl:=netBox_lt HA.net
 have k1:Below w0.heap.size w wr:=HA.off.below (fun g e=>by omega) s1
 have k2:Below w0.heap.size w wc:=((k1.trans (hb.mono (by omega))).trans (hbW.mono (by omega))).trans (hn.below.mono (by omega))
 have hk:∀ g,g<w.heap.size→g≠cb→wc.heap[g]? = w.heap[g]?:=fun g h1 h2 =>
  (hn.below.block g (by omega)).trans ((hbW.block g (by omega)).trans ((hb.block g (by omega)).trans (HA.off.block g h1 (fun e=>by omega))))
 have hk2:∀ g,g<wB.heap.size→wc.heap[g]? = wB.heap[g]?:=fun g h1=>(hn.below.block g (by omega)).trans (hbW.block g h1)
 have hlows:=hn.lows
 refine ⟨hrow,hlow.trans k2,own_same hrooms fun g hg=>hk g (Rw.own_lt hrooms g hg).2 (by have:=hrvb g hg;omega),own_same hlv fun g hg=>hk g (Rw.own_lt hlv g hg).2 (by have:=(hlvb g hg).1;omega),?_,(hf.off (G:=fun _=>False) (.of_below hbW) fun _ _ c=>c).off (G:=fun _=>False) (.of_below hn.below) fun _ _ c=>c,hbox_new hn.ru hn.ups.1,hbox_new hn.ra hn.ups.2.1,fun v v' _ _ g hg=>by simp [Value.ownBlock] at hg,hn.sp,hn.blk,?_,Nat.le_refl _,by omega,hrvb,hlvb,by omega,hn.ups,hn.ne⟩
 ·rw [hk2 cb (by omega),hb.block cb (by omega)];exact HA.cnt
 ·unfold NetBox at *
  rw [hk2 nb (by omega)];exact hnb
end
section
variable {n:Net} {ao:Option Addr} {cap:Nat} {x:Int} {w0 w:World} {cb:Nat} {rv:Value} {lo':Option Addr} {lc:Nat} {TL:List Nat} {RL0:List Int} {L:List Int}
set_option maxHeartbeats 8000000 in
theorem tnew_any (hR:Right n) (hL:Lds n.l L TL) (hTL:TL.length≤1000000) (hrow:ARow w0 ao n.l) (hlow:Below w0.heap.size w0 w) (hrooms:OwnL w w0.heap.size rv RL0) (hlv:OwnI w w0.heap.size (.slice lo' TL.length lc) (encW TL)) (c0:Nat)
  (hcnt:w.heap[cb]? = some (.cells #[.int .i64 (c0:Int)] 147 (0,0))) (hcb:w0.heap.size≤cb) (hrvb:∀ g,rv.ownBlock=some g→w0.heap.size≤g∧g<cb) (hlvb:∀ g,(Value.slice lo' TL.length lc).ownBlock=some g→g<cb∧rv.ownBlock≠some g) (hc0:c0≤1000000) :
  Calls Tryz.prog 94 #[encN n ao cap,rv,.slice lo' TL.length lc,.int .i64 x,.func (.func 95) #[.pointer (some ⟨cb,0,none⟩)] #[]] w fun e w'=>∃ sb lb ab pb p lo hi B b1 VA VS,e=.returned (.pointer (some ⟨sb,0,none⟩)) ∧
   TsM n ao cap x w0 w' sb lb ab pb cb p rv lo hi B b1 VA TL w' RL0 VS (fun v=>TL.filter fun r=>decide ((trF n.l r).toNat=v)) (List.replicate (n.n.toNat+1) false) (c0+(n.n.toNat+1)+TL.length) (Fo.newS (List.replicate (n.n.toNat+1) 4611686018427387904)) 0 0 ∧
   OwnI w' w0.heap.size (.slice lo' TL.length lc) (encW TL)∧∀ b,(Value.slice lo' TL.length lc).ownBlock=some b→¬ Mut rv lb pb cb B b1 b:=by
 obtain ⟨ro,rrc,hrv,_,_,_,_,_,_⟩:=Rw.own_row encI_len hrooms
 subst hrv
 have hN1:=hR.n1
 have hN0:=hR.n0
 have hcl:cb<w.heap.size:=Rw.lt_of_heap hcnt
 have HSA:=hid (show NsA w ((w.alloc (.cells #[.int .i64 n.n,.int .i64 n.s,.int .i64 n.t,.slice ao n.l.length cap] 27)).alloc (.cells (madeCells #[.int .i64 0] (n.n.toNat+1)) 2)) w.heap.size (w.heap.size+1) cb (n.n.toNat+1) n.n n.s n.t (.slice ao n.l.length cap) 0 c0 from by
  have hb:=((Below.refl w.heap.size w).alloc (Nat.le_refl _) (.cells #[.int .i64 n.n,.int .i64 n.s,.int .i64 n.t,.slice ao n.l.length cap] 27)).alloc (by simp) (.cells (madeCells #[.int .i64 0] (n.n.toNat+1)) 2)
  refine ⟨.of_below hb,?_,?_,netBox_alloc (netBox_new _ _ _ _ _) _,by omega⟩
  ·rw [topL_0];exact lbox_made _ _ (by simp)
  ·rw [hb.block cb hcl];exact hcnt)
 have HMORE:=hid (fun (wr:World) (i c:Nat) (h:NsA w wr w.heap.size (w.heap.size+1) cb (n.n.toNat+1) n.n n.s n.t (.slice ao n.l.length cap) i c) (hc:c≤4611686018427387904)=>more_eq wr cb c (by simp [World.cell?,h.cnt]) (by simp [World.frozen?,h.cnt]) hc)
 have hmk:∀ w',(Instr.makeSlice 29 (.int .i64 (n.n+1)) (.int .i64 (n.n+1))).run Tryz.prog w' = .ok (.slice (some ⟨w'.heap.size,0,none⟩) (n.n.toNat+1) (n.n.toNat+1)) (w'.alloc (.cells (madeCells #[.int .i64 0] (n.n.toNat+1)) 2)):=fun w'=>by
  have h:=make_l (n.n.toNat+1) (by omega) w'
  rwa [show ((n.n.toNat+1:Nat):Int)=n.n+1 by omega] at h
 have hwN:IntKind.i64.wrap (n.n+1)=n.n+1:=by rw [IntKind.wrap_i64];omega
 obtain ⟨m,hm⟩:∃ m,m=n.n.toNat+1:=⟨_,rfl⟩
 have HMM:=hid hm
 have hmm:m≤501:=by omega
 have hmx:(m:Int)=max n.n 0+1:=by omega
 rw [← hm] at HMORE
 clear hm
 go_enter Tryz.func94,Tryz.ntmps94
 have HN0:=hid (netBox_new w n.n n.s n.t (.slice ao n.l.length cap))
 obtain ⟨n0,n1,n2,n3⟩:=netBox_cells HN0.out
 go_wp2
 clear hmk hwN n0 n1 n2 n3
 go_loopg [12,26] m (fun gg s12 s26 wr=>(∃ z,s12=z)∧∃ i:Nat,s26=.int .i64 (i:Int)∧i+gg=m∧Hid (NsA w wr w.heap.size (w.heap.size+1) cb m n.n n.s n.t (.slice ao n.l.length cap) i (c0+i)))
 case atStart=>exact ⟨⟨_,rfl⟩,0,rfl,by omega,hid (by rw [HMM.out];exact HSA.out)⟩
 case round =>
  obtain ⟨⟨z12,rfl⟩,i,rfl,hig,HA⟩:=hrel
  by_cases him:i<m
  ·have hii:(i:Int)<max n.n 0+1:=by omega
   have hi0:(0:Int)≤(i:Int):=by omega
   have hi2:(i:Int)<(n.n.toNat:Int)+1:=by have:=HMM.out;omega
   have hw1:IntKind.i64.wrap ((i:Int)+1)=((i+1:Nat):Int):=by rw [IntKind.wrap_i64];omega
   have HMO:=hid (HMORE.out _ _ _ HA.out (by omega))
   have HC:=hid HA.out.count
   clear HA hmx
   go_wp2_with fail
   refine HMO.out.mono ?_
   rintro e w3 ⟨rfl,hw3⟩
   have h3:=HC.out
   rw [← hw3] at h3
   have v0:=LBox.cell h3.vals (i:=i) (by rw [topL_len];exact him)
   have v1:=LBox.frozen h3.vals i
   have HP:=hid (h3.put him)
   clear hw3 h3 HC HMO
   go_wp2
   go_roundg (m-(i+1))
   case measure=>omega
   case rel=>exact ⟨⟨_,rfl⟩,i+1,rfl,by omega,HP⟩
  ·have e:m=i:=by omega
   subst e
   have hmd:¬ ((m:Int)<max n.n 0+1):=by omega
   clear hig him hmx HMORE HSA
   have hrow2:=LBox.irow HA.out.vals
   rw [topL_m] at hrow2
   have HNW:=hid (Fo.fnew_any (some ⟨w.heap.size+1,0,none⟩) m (List.replicate m 4611686018427387904) wr hrow2 (fun h=>by cases h))
   rw [List.length_replicate,top_newE (by omega)] at HNW
   have HWN:=hid (show Calls Tryz.prog 99 #[.slice (some ⟨w.heap.size+1,0,none⟩) (n.n.toNat+1) (n.n.toNat+1)] wr fun e w'=>∃ p,e=.returned (.tuple #[.pointer (some ⟨p,0,none⟩),.int .i64 0])∧Below wr.heap.size wr w'∧FoO w' wr.heap.size (fun g=>wr.heap.size≤g∧g<w'.heap.size) p (Fo.newS (List.replicate m 4611686018427387904)) 0 0 from by
    rw [← HMM.out]
    refine HNW.out.mono ?_
    rintro e w' ⟨hb,pv,rfl,_,hp⟩
    obtain ⟨p,rfl,hf⟩:=hp rfl
    exact ⟨p,rfl,hb,hf⟩)
   clear hrow2 HNW
   go_wp2_with fail
   refine HWN.out.mono ?_
   rintro e wB ⟨p,rfl,hb,hf⟩
   have HBB:=hid hb
   have HFO:=hid hf
   have HNB:=hid (netBox_below HA.out.net hb (netBox_lt HA.out.net))
   clear hb hf HWN
   obtain ⟨nb,hnb⟩:∃ nb,nb=w.heap.size:=⟨_,rfl⟩
   rw [← hnb] at HNB ⊢
   have HNBE:=hid hnb
   clear hnb
   obtain ⟨n0,n1,n2,n3⟩:=netBox_cells HNB.out
   have hmkr:∀ w',(Instr.makeSlice 84 (.int .i64 (n.n+1)) (.int .i64 (n.n+1))).run Tryz.prog w' = .ok (.slice (some ⟨w'.heap.size,0,none⟩) (n.n.toNat+1) (n.n.toNat+1)) (w'.alloc (.cells (madeCells #[.slice none 0 0] (n.n.toNat+1)) 23)):=fun w'=>by
    have h:=make_r (n.n.toNat+1) (by omega) w'
    rwa [show ((n.n.toNat+1:Nat):Int)=n.n+1 by omega] at h
   have hmkb:∀ w',(Instr.makeSlice 59 (.int .i64 (n.n+1)) (.int .i64 (n.n+1))).run Tryz.prog w' = .ok (.slice (some ⟨w'.heap.size,0,none⟩) (n.n.toNat+1) (n.n.toNat+1)) (w'.alloc (.cells (madeCells #[.bool false] (n.n.toNat+1)) 4)):=fun w'=>by
    have h:=make_b (n.n.toNat+1) (by omega) w'
    rwa [show ((n.n.toNat+1:Nat):Int)=n.n+1 by omega] at h
   have hwN:IntKind.i64.wrap (n.n+1)=n.n+1:=by rw [IntKind.wrap_i64];omega
   go_upto_region 9 with fail
   go_cut [15] (fun s wc=>∃ sb lb ab pb,s=.pointer (some ⟨sb,0,none⟩)∧∃ W,Hid (W.heap.size=wB.heap.size∧Below wB.heap.size wB W)∧Hid (NsB W wc n.n n.s n.t x (.slice ao n.l.length cap) (.slice ro RL0.length rrc) lb ab pb sb p cb (n.n.toNat+1)))
   case first =>
    obtain ⟨WA,hWA⟩:∃ WA,WA=wB.drew:=⟨_,rfl⟩
    have HWA:=hid (show WA.heap.size=wB.heap.size∧Below wB.heap.size wB WA from by rw [hWA];exact ⟨rfl,below_drew (Below.refl _ _)⟩)
    have HNA:=hid (show NetBox WA nb n.n n.s n.t (.slice ao n.l.length cap) from by rw [hWA];exact HNB.out)
    have hS0:=(show (fun w':World=>w'.cell? ⟨nb,0,none⟩=some (.int .i64 n.n)∧w'.cell? ⟨nb,1,none⟩=some (.int .i64 n.s)∧w'.cell? ⟨nb,2,none⟩=some (.int .i64 n.t)∧w'.cell? ⟨nb,3,none⟩=some (.slice ao n.l.length cap)) WA from netBox_cells HNA.out)
    refine Rh.start (S:=(fun w':World=>w'.cell? ⟨nb,0,none⟩=some (.int .i64 n.n)∧w'.cell? ⟨nb,1,none⟩=some (.int .i64 n.s)∧w'.cell? ⟨nb,2,none⟩=some (.int .i64 n.t)∧w'.cell? ⟨nb,3,none⟩=some (.slice ao n.l.length cap))) (by kernel_rfl) ?_
    rw [← hWA]
    clear hWA n0 n1 n2 n3
    refine Rh.tp 40 0 hS0 ?_
    refine Rh.tp 41 1 hS0 ?_
    refine Rh.tp 42 2 hS0 ?_
    refine Rh.tp 43 3 hS0 ?_
    refine Rh.tp 44 4 hS0 ?_
    refine Rh.tp 45 5 hS0 ?_
    refine Rh.tp 47 7 hS0 ?_
    refine Rh.tp 48 8 hS0 ?_
    refine Rh.tp 49 9 hS0 ?_
    refine Rh.tp 51 11 hS0 ?_
    refine Rh.tp 52 12 hS0 ?_
    refine Rh.tp 53 13 hS0 ?_
    refine Rh.tp 55 15 hS0 ?_
    refine Rh.tp 56 16 hS0 ?_
    refine Rh.three (i:=6) (j:=10) (k:=14) (by kernel_rfl) rfl rfl rfl (fun K' hK'=>?_) (fun K' hK'=>?_) (fun K' hK'=>?_)
    ·have HK:=hid hK'
     clear hK'
     go_simp
     have HNb1:=hid (netBox_alloc HNA.out (.cells (madeCells #[.slice none 0 0] (n.n.toNat+1)) 23))
     have hS1:=(show (fun w':World=>w'.cell? ⟨nb,0,none⟩=some (.int .i64 n.n)∧w'.cell? ⟨nb,1,none⟩=some (.int .i64 n.s)∧w'.cell? ⟨nb,2,none⟩=some (.int .i64 n.t)∧w'.cell? ⟨nb,3,none⟩=some (.slice ao n.l.length cap)) (WA.alloc (.cells (madeCells #[.slice none 0 0] (n.n.toNat+1)) 23)) from netBox_cells HNb1.out)
     refine HK.out _ _ ⟨hS1,?_⟩
     clear HK K'
     try simp only [Act.put,Rh.q1,Rh.q2,Rh.q3]
     refine Rh.two (i:=10) (j:=14) (by kernel_rfl) rfl rfl (fun K' hK'=>?_) (fun K' hK'=>?_)
     ·have HK:=hid hK'
      clear hK'
      go_simp
      have HNb2:=hid (netBox_alloc HNb1.out (.cells (madeCells #[.slice none 0 0] (n.n.toNat+1)) 23))
      have hS2:=(show (fun w':World=>w'.cell? ⟨nb,0,none⟩=some (.int .i64 n.n)∧w'.cell? ⟨nb,1,none⟩=some (.int .i64 n.s)∧w'.cell? ⟨nb,2,none⟩=some (.int .i64 n.t)∧w'.cell? ⟨nb,3,none⟩=some (.slice ao n.l.length cap)) ((WA.alloc (.cells (madeCells #[.slice none 0 0] (n.n.toNat+1)) 23)).alloc (.cells (madeCells #[.slice none 0 0] (n.n.toNat+1)) 23)) from netBox_cells HNb2.out)
      refine HK.out _ _ ⟨hS2,?_⟩
      clear HK K'
      try simp only [Act.put,Rh.q1,Rh.q2,Rh.q3]
      refine Rh.step (i:=14) (by kernel_rfl) rfl fun K' hK'=>?_
      have HK:=hid hK'
      clear hK'
      go_simp
      have HNb3:=hid (netBox_alloc HNb2.out (.cells (madeCells #[.bool false] (n.n.toNat+1)) 4))
      have hS3:=(show (fun w':World=>w'.cell? ⟨nb,0,none⟩=some (.int .i64 n.n)∧w'.cell? ⟨nb,1,none⟩=some (.int .i64 n.s)∧w'.cell? ⟨nb,2,none⟩=some (.int .i64 n.t)∧w'.cell? ⟨nb,3,none⟩=some (.slice ao n.l.length cap)) (((WA.alloc (.cells (madeCells #[.slice none 0 0] (n.n.toNat+1)) 23)).alloc (.cells (madeCells #[.slice none 0 0] (n.n.toNat+1)) 23)).alloc (.cells (madeCells #[.bool false] (n.n.toNat+1)) 4)) from netBox_cells HNb3.out)
      refine HK.out _ _ ⟨hS3,?_⟩
      clear HK K'
      try simp only [Act.put,Rh.q1,Rh.q2,Rh.q3]
      refine Rh.tp 57 17 hS3 ?_
      refine Rh.step (i:=18) (by kernel_rfl) rfl fun K' hK'=>?_
      have HK:=hid hK'
      clear hK'
      go_simp
      have HNb4:=hid (netBox_alloc HNb3.out (.cells #[.int .i64 n.n,.int .i64 n.s,.int .i64 n.t,.slice ao n.l.length cap,.slice ro RL0.length rrc,.int .i64 x,.slice (some ⟨WA.heap.size,0,none⟩) (n.n.toNat+1) (n.n.toNat+1),.slice (some ⟨WA.heap.size+1,0,none⟩) (n.n.toNat+1) (n.n.toNat+1),.slice (some ⟨WA.heap.size+1+1,0,none⟩) (n.n.toNat+1) (n.n.toNat+1),.pointer (some ⟨p,0,none⟩),.func (.func 95) #[.pointer (some ⟨cb,0,none⟩)] #[]] 153))
      have hS4:=(show (fun w':World=>w'.cell? ⟨nb,0,none⟩=some (.int .i64 n.n)∧w'.cell? ⟨nb,1,none⟩=some (.int .i64 n.s)∧w'.cell? ⟨nb,2,none⟩=some (.int .i64 n.t)∧w'.cell? ⟨nb,3,none⟩=some (.slice ao n.l.length cap)) ((((WA.alloc (.cells (madeCells #[.slice none 0 0] (n.n.toNat+1)) 23)).alloc (.cells (madeCells #[.slice none 0 0] (n.n.toNat+1)) 23)).alloc (.cells (madeCells #[.bool false] (n.n.toNat+1)) 4)).alloc (.cells #[.int .i64 n.n,.int .i64 n.s,.int .i64 n.t,.slice ao n.l.length cap,.slice ro RL0.length rrc,.int .i64 x,.slice (some ⟨WA.heap.size,0,none⟩) (n.n.toNat+1) (n.n.toNat+1),.slice (some ⟨WA.heap.size+1,0,none⟩) (n.n.toNat+1) (n.n.toNat+1),.slice (some ⟨WA.heap.size+1+1,0,none⟩) (n.n.toNat+1) (n.n.toNat+1),.pointer (some ⟨p,0,none⟩),.func (.func 95) #[.pointer (some ⟨cb,0,none⟩)] #[]] 153)) from netBox_cells HNb4.out)
      refine HK.out _ _ ⟨hS4,?_⟩
      clear HK K'
      try simp only [Act.put,Rh.q1,Rh.q2,Rh.q3]
      refine Rh.tp 15 19 hS4 ?_
      refine Rh.done (by kernel_rfl) ?_ _
      go_wp2
      go_meet
      case rel=>exact ⟨_,WA.heap.size,WA.heap.size+1,WA.heap.size+1+1,rfl,WA,HWA,hid (nsb_uab WA n.n n.s n.t x (.slice ao n.l.length cap) (.slice ro RL0.length rrc) p cb (n.n.toNat+1))⟩
     ·have HK:=hid hK'
      clear hK'
      go_simp
      have HNb2:=hid (netBox_alloc HNb1.out (.cells (madeCells #[.bool false] (n.n.toNat+1)) 4))
      have hS2:=(show (fun w':World=>w'.cell? ⟨nb,0,none⟩=some (.int .i64 n.n)∧w'.cell? ⟨nb,1,none⟩=some (.int .i64 n.s)∧w'.cell? ⟨nb,2,none⟩=some (.int .i64 n.t)∧w'.cell? ⟨nb,3,none⟩=some (.slice ao n.l.length cap)) ((WA.alloc (.cells (madeCells #[.slice none 0 0] (n.n.toNat+1)) 23)).alloc (.cells (madeCells #[.bool false] (n.n.toNat+1)) 4)) from netBox_cells HNb2.out)
      refine HK.out _ _ ⟨hS2,?_⟩
      clear HK K'
      try simp only [Act.put,Rh.q1,Rh.q2,Rh.q3]
      refine Rh.step (i:=10) (by kernel_rfl) rfl fun K' hK'=>?_
      have HK:=hid hK'
      clear hK'
      go_simp
      have HNb3:=hid (netBox_alloc HNb2.out (.cells (madeCells #[.slice none 0 0] (n.n.toNat+1)) 23))
      have hS3:=(show (fun w':World=>w'.cell? ⟨nb,0,none⟩=some (.int .i64 n.n)∧w'.cell? ⟨nb,1,none⟩=some (.int .i64 n.s)∧w'.cell? ⟨nb,2,none⟩=some (.int .i64 n.t)∧w'.cell? ⟨nb,3,none⟩=some (.slice ao n.l.length cap)) (((WA.alloc (.cells (madeCells #[.slice none 0 0] (n.n.toNat+1)) 23)).alloc (.cells (madeCells #[.bool false] (n.n.toNat+1)) 4)).alloc (.cells (madeCells #[.slice none 0 0] (n.n.toNat+1)) 23)) from netBox_cells HNb3.out)
      refine HK.out _ _ ⟨hS3,?_⟩
      clear HK K'
      try simp only [Act.put,Rh.q1,Rh.q2,Rh.q3]
      refine Rh.tp 57 17 hS3 ?_
      refine Rh.step (i:=18) (by kernel_rfl) rfl fun K' hK'=>?_
      have HK:=hid hK'
      clear hK'
      go_simp
      have HNb4:=hid (netBox_alloc HNb3.out (.cells #[.int .i64 n.n,.int .i64 n.s,.int .i64 n.t,.slice ao n.l.length cap,.slice ro RL0.length rrc,.int .i64 x,.slice (some ⟨WA.heap.size,0,none⟩) (n.n.toNat+1) (n.n.toNat+1),.slice (some ⟨WA.heap.size+1+1,0,none⟩) (n.n.toNat+1) (n.n.toNat+1),.slice (some ⟨WA.heap.size+1,0,none⟩) (n.n.toNat+1) (n.n.toNat+1),.pointer (some ⟨p,0,none⟩),.func (.func 95) #[.pointer (some ⟨cb,0,none⟩)] #[]] 153))
      have hS4:=(show (fun w':World=>w'.cell? ⟨nb,0,none⟩=some (.int .i64 n.n)∧w'.cell? ⟨nb,1,none⟩=some (.int .i64 n.s)∧w'.cell? ⟨nb,2,none⟩=some (.int .i64 n.t)∧w'.cell? ⟨nb,3,none⟩=some (.slice ao n.l.length cap)) ((((WA.alloc (.cells (madeCells #[.slice none 0 0] (n.n.toNat+1)) 23)).alloc (.cells (madeCells #[.bool false] (n.n.toNat+1)) 4)).alloc (.cells (madeCells #[.slice none 0 0] (n.n.toNat+1)) 23)).alloc (.cells #[.int .i64 n.n,.int .i64 n.s,.int .i64 n.t,.slice ao n.l.length cap,.slice ro RL0.length rrc,.int .i64 x,.slice (some ⟨WA.heap.size,0,none⟩) (n.n.toNat+1) (n.n.toNat+1),.slice (some ⟨WA.heap.size+1+1,0,none⟩) (n.n.toNat+1) (n.n.toNat+1),.slice (some ⟨WA.heap.size+1,0,none⟩) (n.n.toNat+1) (n.n.toNat+1),.pointer (some ⟨p,0,none⟩),.func (.func 95) #[.pointer (some ⟨cb,0,none⟩)] #[]] 153)) from netBox_cells HNb4.out)
      refine HK.out _ _ ⟨hS4,?_⟩
      clear HK K'
      try simp only [Act.put,Rh.q1,Rh.q2,Rh.q3]
      refine Rh.tp 15 19 hS4 ?_
      refine Rh.done (by kernel_rfl) ?_ _
      go_wp2
      go_meet
      case rel=>exact ⟨_,WA.heap.size,WA.heap.size+1+1,WA.heap.size+1,rfl,WA,HWA,hid (nsb_uba WA n.n n.s n.t x (.slice ao n.l.length cap) (.slice ro RL0.length rrc) p cb (n.n.toNat+1))⟩
    ·have HK:=hid hK'
     clear hK'
     go_simp
     have HNb1:=hid (netBox_alloc HNA.out (.cells (madeCells #[.slice none 0 0] (n.n.toNat+1)) 23))
     have hS1:=(show (fun w':World=>w'.cell? ⟨nb,0,none⟩=some (.int .i64 n.n)∧w'.cell? ⟨nb,1,none⟩=some (.int .i64 n.s)∧w'.cell? ⟨nb,2,none⟩=some (.int .i64 n.t)∧w'.cell? ⟨nb,3,none⟩=some (.slice ao n.l.length cap)) (WA.alloc (.cells (madeCells #[.slice none 0 0] (n.n.toNat+1)) 23)) from netBox_cells HNb1.out)
     refine HK.out _ _ ⟨hS1,?_⟩
     clear HK K'
     try simp only [Act.put,Rh.q1,Rh.q2,Rh.q3]
     refine Rh.two (i:=6) (j:=14) (by kernel_rfl) rfl rfl (fun K' hK'=>?_) (fun K' hK'=>?_)
     ·have HK:=hid hK'
      clear hK'
      go_simp
      have HNb2:=hid (netBox_alloc HNb1.out (.cells (madeCells #[.slice none 0 0] (n.n.toNat+1)) 23))
      have hS2:=(show (fun w':World=>w'.cell? ⟨nb,0,none⟩=some (.int .i64 n.n)∧w'.cell? ⟨nb,1,none⟩=some (.int .i64 n.s)∧w'.cell? ⟨nb,2,none⟩=some (.int .i64 n.t)∧w'.cell? ⟨nb,3,none⟩=some (.slice ao n.l.length cap)) ((WA.alloc (.cells (madeCells #[.slice none 0 0] (n.n.toNat+1)) 23)).alloc (.cells (madeCells #[.slice none 0 0] (n.n.toNat+1)) 23)) from netBox_cells HNb2.out)
      refine HK.out _ _ ⟨hS2,?_⟩
      clear HK K'
      try simp only [Act.put,Rh.q1,Rh.q2,Rh.q3]
      refine Rh.step (i:=14) (by kernel_rfl) rfl fun K' hK'=>?_
      have HK:=hid hK'
      clear hK'
      go_simp
      have HNb3:=hid (netBox_alloc HNb2.out (.cells (madeCells #[.bool false] (n.n.toNat+1)) 4))
      have hS3:=(show (fun w':World=>w'.cell? ⟨nb,0,none⟩=some (.int .i64 n.n)∧w'.cell? ⟨nb,1,none⟩=some (.int .i64 n.s)∧w'.cell? ⟨nb,2,none⟩=some (.int .i64 n.t)∧w'.cell? ⟨nb,3,none⟩=some (.slice ao n.l.length cap)) (((WA.alloc (.cells (madeCells #[.slice none 0 0] (n.n.toNat+1)) 23)).alloc (.cells (madeCells #[.slice none 0 0] (n.n.toNat+1)) 23)).alloc (.cells (madeCells #[.bool false] (n.n.toNat+1)) 4)) from netBox_cells HNb3.out)
      refine HK.out _ _ ⟨hS3,?_⟩
      clear HK K'
      try simp only [Act.put,Rh.q1,Rh.q2,Rh.q3]
      refine Rh.tp 57 17 hS3 ?_
      refine Rh.step (i:=18) (by kernel_rfl) rfl fun K' hK'=>?_
      have HK:=hid hK'
      clear hK'
      go_simp
      have HNb4:=hid (netBox_alloc HNb3.out (.cells #[.int .i64 n.n,.int .i64 n.s,.int .i64 n.t,.slice ao n.l.length cap,.slice ro RL0.length rrc,.int .i64 x,.slice (some ⟨WA.heap.size+1,0,none⟩) (n.n.toNat+1) (n.n.toNat+1),.slice (some ⟨WA.heap.size,0,none⟩) (n.n.toNat+1) (n.n.toNat+1),.slice (some ⟨WA.heap.size+1+1,0,none⟩) (n.n.toNat+1) (n.n.toNat+1),.pointer (some ⟨p,0,none⟩),.func (.func 95) #[.pointer (some ⟨cb,0,none⟩)] #[]] 153))
      have hS4:=(show (fun w':World=>w'.cell? ⟨nb,0,none⟩=some (.int .i64 n.n)∧w'.cell? ⟨nb,1,none⟩=some (.int .i64 n.s)∧w'.cell? ⟨nb,2,none⟩=some (.int .i64 n.t)∧w'.cell? ⟨nb,3,none⟩=some (.slice ao n.l.length cap)) ((((WA.alloc (.cells (madeCells #[.slice none 0 0] (n.n.toNat+1)) 23)).alloc (.cells (madeCells #[.slice none 0 0] (n.n.toNat+1)) 23)).alloc (.cells (madeCells #[.bool false] (n.n.toNat+1)) 4)).alloc (.cells #[.int .i64 n.n,.int .i64 n.s,.int .i64 n.t,.slice ao n.l.length cap,.slice ro RL0.length rrc,.int .i64 x,.slice (some ⟨WA.heap.size+1,0,none⟩) (n.n.toNat+1) (n.n.toNat+1),.slice (some ⟨WA.heap.size,0,none⟩) (n.n.toNat+1) (n.n.toNat+1),.slice (some ⟨WA.heap.size+1+1,0,none⟩) (n.n.toNat+1) (n.n.toNat+1),.pointer (some ⟨p,0,none⟩),.func (.func 95) #[.pointer (some ⟨cb,0,none⟩)] #[]] 153)) from netBox_cells HNb4.out)
      refine HK.out _ _ ⟨hS4,?_⟩
      clear HK K'
      try simp only [Act.put,Rh.q1,Rh.q2,Rh.q3]
      refine Rh.tp 15 19 hS4 ?_
      refine Rh.done (by kernel_rfl) ?_ _
      go_wp2
      go_meet
      case rel=>exact ⟨_,WA.heap.size+1,WA.heap.size,WA.heap.size+1+1,rfl,WA,HWA,hid (nsb_aub WA n.n n.s n.t x (.slice ao n.l.length cap) (.slice ro RL0.length rrc) p cb (n.n.toNat+1))⟩
     ·have HK:=hid hK'
      clear hK'
      go_simp
      have HNb2:=hid (netBox_alloc HNb1.out (.cells (madeCells #[.bool false] (n.n.toNat+1)) 4))
      have hS2:=(show (fun w':World=>w'.cell? ⟨nb,0,none⟩=some (.int .i64 n.n)∧w'.cell? ⟨nb,1,none⟩=some (.int .i64 n.s)∧w'.cell? ⟨nb,2,none⟩=some (.int .i64 n.t)∧w'.cell? ⟨nb,3,none⟩=some (.slice ao n.l.length cap)) ((WA.alloc (.cells (madeCells #[.slice none 0 0] (n.n.toNat+1)) 23)).alloc (.cells (madeCells #[.bool false] (n.n.toNat+1)) 4)) from netBox_cells HNb2.out)
      refine HK.out _ _ ⟨hS2,?_⟩
      clear HK K'
      try simp only [Act.put,Rh.q1,Rh.q2,Rh.q3]
      refine Rh.step (i:=6) (by kernel_rfl) rfl fun K' hK'=>?_
      have HK:=hid hK'
      clear hK'
      go_simp
      have HNb3:=hid (netBox_alloc HNb2.out (.cells (madeCells #[.slice none 0 0] (n.n.toNat+1)) 23))
      have hS3:=(show (fun w':World=>w'.cell? ⟨nb,0,none⟩=some (.int .i64 n.n)∧w'.cell? ⟨nb,1,none⟩=some (.int .i64 n.s)∧w'.cell? ⟨nb,2,none⟩=some (.int .i64 n.t)∧w'.cell? ⟨nb,3,none⟩=some (.slice ao n.l.length cap)) (((WA.alloc (.cells (madeCells #[.slice none 0 0] (n.n.toNat+1)) 23)).alloc (.cells (madeCells #[.bool false] (n.n.toNat+1)) 4)).alloc (.cells (madeCells #[.slice none 0 0] (n.n.toNat+1)) 23)) from netBox_cells HNb3.out)
      refine HK.out _ _ ⟨hS3,?_⟩
      clear HK K'
      try simp only [Act.put,Rh.q1,Rh.q2,Rh.q3]
      refine Rh.tp 57 17 hS3 ?_
      refine Rh.step (i:=18) (by kernel_rfl) rfl fun K' hK'=>?_
      have HK:=hid hK'
      clear hK'
      go_simp
      have HNb4:=hid (netBox_alloc HNb3.out (.cells #[.int .i64 n.n,.int .i64 n.s,.int .i64 n.t,.slice ao n.l.length cap,.slice ro RL0.length rrc,.int .i64 x,.slice (some ⟨WA.heap.size+1+1,0,none⟩) (n.n.toNat+1) (n.n.toNat+1),.slice (some ⟨WA.heap.size,0,none⟩) (n.n.toNat+1) (n.n.toNat+1),.slice (some ⟨WA.heap.size+1,0,none⟩) (n.n.toNat+1) (n.n.toNat+1),.pointer (some ⟨p,0,none⟩),.func (.func 95) #[.pointer (some ⟨cb,0,none⟩)] #[]] 153))
      have hS4:=(show (fun w':World=>w'.cell? ⟨nb,0,none⟩=some (.int .i64 n.n)∧w'.cell? ⟨nb,1,none⟩=some (.int .i64 n.s)∧w'.cell? ⟨nb,2,none⟩=some (.int .i64 n.t)∧w'.cell? ⟨nb,3,none⟩=some (.slice ao n.l.length cap)) ((((WA.alloc (.cells (madeCells #[.slice none 0 0] (n.n.toNat+1)) 23)).alloc (.cells (madeCells #[.bool false] (n.n.toNat+1)) 4)).alloc (.cells (madeCells #[.slice none 0 0] (n.n.toNat+1)) 23)).alloc (.cells #[.int .i64 n.n,.int .i64 n.s,.int .i64 n.t,.slice ao n.l.length cap,.slice ro RL0.length rrc,.int .i64 x,.slice (some ⟨WA.heap.size+1+1,0,none⟩) (n.n.toNat+1) (n.n.toNat+1),.slice (some ⟨WA.heap.size,0,none⟩) (n.n.toNat+1) (n.n.toNat+1),.slice (some ⟨WA.heap.size+1,0,none⟩) (n.n.toNat+1) (n.n.toNat+1),.pointer (some ⟨p,0,none⟩),.func (.func 95) #[.pointer (some ⟨cb,0,none⟩)] #[]] 153)) from netBox_cells HNb4.out)
      refine HK.out _ _ ⟨hS4,?_⟩
      clear HK K'
      try simp only [Act.put,Rh.q1,Rh.q2,Rh.q3]
      refine Rh.tp 15 19 hS4 ?_
      refine Rh.done (by kernel_rfl) ?_ _
      go_wp2
      go_meet
      case rel=>exact ⟨_,WA.heap.size+1+1,WA.heap.size,WA.heap.size+1,rfl,WA,HWA,hid (nsb_abu WA n.n n.s n.t x (.slice ao n.l.length cap) (.slice ro RL0.length rrc) p cb (n.n.toNat+1))⟩
    ·have HK:=hid hK'
     clear hK'
     go_simp
     have HNb1:=hid (netBox_alloc HNA.out (.cells (madeCells #[.bool false] (n.n.toNat+1)) 4))
     have hS1:=(show (fun w':World=>w'.cell? ⟨nb,0,none⟩=some (.int .i64 n.n)∧w'.cell? ⟨nb,1,none⟩=some (.int .i64 n.s)∧w'.cell? ⟨nb,2,none⟩=some (.int .i64 n.t)∧w'.cell? ⟨nb,3,none⟩=some (.slice ao n.l.length cap)) (WA.alloc (.cells (madeCells #[.bool false] (n.n.toNat+1)) 4)) from netBox_cells HNb1.out)
     refine HK.out _ _ ⟨hS1,?_⟩
     clear HK K'
     try simp only [Act.put,Rh.q1,Rh.q2,Rh.q3]
     refine Rh.two (i:=6) (j:=10) (by kernel_rfl) rfl rfl (fun K' hK'=>?_) (fun K' hK'=>?_)
     ·have HK:=hid hK'
      clear hK'
      go_simp
      have HNb2:=hid (netBox_alloc HNb1.out (.cells (madeCells #[.slice none 0 0] (n.n.toNat+1)) 23))
      have hS2:=(show (fun w':World=>w'.cell? ⟨nb,0,none⟩=some (.int .i64 n.n)∧w'.cell? ⟨nb,1,none⟩=some (.int .i64 n.s)∧w'.cell? ⟨nb,2,none⟩=some (.int .i64 n.t)∧w'.cell? ⟨nb,3,none⟩=some (.slice ao n.l.length cap)) ((WA.alloc (.cells (madeCells #[.bool false] (n.n.toNat+1)) 4)).alloc (.cells (madeCells #[.slice none 0 0] (n.n.toNat+1)) 23)) from netBox_cells HNb2.out)
      refine HK.out _ _ ⟨hS2,?_⟩
      clear HK K'
      try simp only [Act.put,Rh.q1,Rh.q2,Rh.q3]
      refine Rh.step (i:=10) (by kernel_rfl) rfl fun K' hK'=>?_
      have HK:=hid hK'
      clear hK'
      go_simp
      have HNb3:=hid (netBox_alloc HNb2.out (.cells (madeCells #[.slice none 0 0] (n.n.toNat+1)) 23))
      have hS3:=(show (fun w':World=>w'.cell? ⟨nb,0,none⟩=some (.int .i64 n.n)∧w'.cell? ⟨nb,1,none⟩=some (.int .i64 n.s)∧w'.cell? ⟨nb,2,none⟩=some (.int .i64 n.t)∧w'.cell? ⟨nb,3,none⟩=some (.slice ao n.l.length cap)) (((WA.alloc (.cells (madeCells #[.bool false] (n.n.toNat+1)) 4)).alloc (.cells (madeCells #[.slice none 0 0] (n.n.toNat+1)) 23)).alloc (.cells (madeCells #[.slice none 0 0] (n.n.toNat+1)) 23)) from netBox_cells HNb3.out)
      refine HK.out _ _ ⟨hS3,?_⟩
      clear HK K'
      try simp only [Act.put,Rh.q1,Rh.q2,Rh.q3]
      refine Rh.tp 57 17 hS3 ?_
      refine Rh.step (i:=18) (by kernel_rfl) rfl fun K' hK'=>?_
      have HK:=hid hK'
      clear hK'
      go_simp
      have HNb4:=hid (netBox_alloc HNb3.out (.cells #[.int .i64 n.n,.int .i64 n.s,.int .i64 n.t,.slice ao n.l.length cap,.slice ro RL0.length rrc,.int .i64 x,.slice (some ⟨WA.heap.size+1,0,none⟩) (n.n.toNat+1) (n.n.toNat+1),.slice (some ⟨WA.heap.size+1+1,0,none⟩) (n.n.toNat+1) (n.n.toNat+1),.slice (some ⟨WA.heap.size,0,none⟩) (n.n.toNat+1) (n.n.toNat+1),.pointer (some ⟨p,0,none⟩),.func (.func 95) #[.pointer (some ⟨cb,0,none⟩)] #[]] 153))
      have hS4:=(show (fun w':World=>w'.cell? ⟨nb,0,none⟩=some (.int .i64 n.n)∧w'.cell? ⟨nb,1,none⟩=some (.int .i64 n.s)∧w'.cell? ⟨nb,2,none⟩=some (.int .i64 n.t)∧w'.cell? ⟨nb,3,none⟩=some (.slice ao n.l.length cap)) ((((WA.alloc (.cells (madeCells #[.bool false] (n.n.toNat+1)) 4)).alloc (.cells (madeCells #[.slice none 0 0] (n.n.toNat+1)) 23)).alloc (.cells (madeCells #[.slice none 0 0] (n.n.toNat+1)) 23)).alloc (.cells #[.int .i64 n.n,.int .i64 n.s,.int .i64 n.t,.slice ao n.l.length cap,.slice ro RL0.length rrc,.int .i64 x,.slice (some ⟨WA.heap.size+1,0,none⟩) (n.n.toNat+1) (n.n.toNat+1),.slice (some ⟨WA.heap.size+1+1,0,none⟩) (n.n.toNat+1) (n.n.toNat+1),.slice (some ⟨WA.heap.size,0,none⟩) (n.n.toNat+1) (n.n.toNat+1),.pointer (some ⟨p,0,none⟩),.func (.func 95) #[.pointer (some ⟨cb,0,none⟩)] #[]] 153)) from netBox_cells HNb4.out)
      refine HK.out _ _ ⟨hS4,?_⟩
      clear HK K'
      try simp only [Act.put,Rh.q1,Rh.q2,Rh.q3]
      refine Rh.tp 15 19 hS4 ?_
      refine Rh.done (by kernel_rfl) ?_ _
      go_wp2
      go_meet
      case rel=>exact ⟨_,WA.heap.size+1,WA.heap.size+1+1,WA.heap.size,rfl,WA,HWA,hid (nsb_bua WA n.n n.s n.t x (.slice ao n.l.length cap) (.slice ro RL0.length rrc) p cb (n.n.toNat+1))⟩
     ·have HK:=hid hK'
      clear hK'
      go_simp
      have HNb2:=hid (netBox_alloc HNb1.out (.cells (madeCells #[.slice none 0 0] (n.n.toNat+1)) 23))
      have hS2:=(show (fun w':World=>w'.cell? ⟨nb,0,none⟩=some (.int .i64 n.n)∧w'.cell? ⟨nb,1,none⟩=some (.int .i64 n.s)∧w'.cell? ⟨nb,2,none⟩=some (.int .i64 n.t)∧w'.cell? ⟨nb,3,none⟩=some (.slice ao n.l.length cap)) ((WA.alloc (.cells (madeCells #[.bool false] (n.n.toNat+1)) 4)).alloc (.cells (madeCells #[.slice none 0 0] (n.n.toNat+1)) 23)) from netBox_cells HNb2.out)
      refine HK.out _ _ ⟨hS2,?_⟩
      clear HK K'
      try simp only [Act.put,Rh.q1,Rh.q2,Rh.q3]
      refine Rh.step (i:=6) (by kernel_rfl) rfl fun K' hK'=>?_
      have HK:=hid hK'
      clear hK'
      go_simp
      have HNb3:=hid (netBox_alloc HNb2.out (.cells (madeCells #[.slice none 0 0] (n.n.toNat+1)) 23))
      have hS3:=(show (fun w':World=>w'.cell? ⟨nb,0,none⟩=some (.int .i64 n.n)∧w'.cell? ⟨nb,1,none⟩=some (.int .i64 n.s)∧w'.cell? ⟨nb,2,none⟩=some (.int .i64 n.t)∧w'.cell? ⟨nb,3,none⟩=some (.slice ao n.l.length cap)) (((WA.alloc (.cells (madeCells #[.bool false] (n.n.toNat+1)) 4)).alloc (.cells (madeCells #[.slice none 0 0] (n.n.toNat+1)) 23)).alloc (.cells (madeCells #[.slice none 0 0] (n.n.toNat+1)) 23)) from netBox_cells HNb3.out)
      refine HK.out _ _ ⟨hS3,?_⟩
      clear HK K'
      try simp only [Act.put,Rh.q1,Rh.q2,Rh.q3]
      refine Rh.tp 57 17 hS3 ?_
      refine Rh.step (i:=18) (by kernel_rfl) rfl fun K' hK'=>?_
      have HK:=hid hK'
      clear hK'
      go_simp
      have HNb4:=hid (netBox_alloc HNb3.out (.cells #[.int .i64 n.n,.int .i64 n.s,.int .i64 n.t,.slice ao n.l.length cap,.slice ro RL0.length rrc,.int .i64 x,.slice (some ⟨WA.heap.size+1+1,0,none⟩) (n.n.toNat+1) (n.n.toNat+1),.slice (some ⟨WA.heap.size+1,0,none⟩) (n.n.toNat+1) (n.n.toNat+1),.slice (some ⟨WA.heap.size,0,none⟩) (n.n.toNat+1) (n.n.toNat+1),.pointer (some ⟨p,0,none⟩),.func (.func 95) #[.pointer (some ⟨cb,0,none⟩)] #[]] 153))
      have hS4:=(show (fun w':World=>w'.cell? ⟨nb,0,none⟩=some (.int .i64 n.n)∧w'.cell? ⟨nb,1,none⟩=some (.int .i64 n.s)∧w'.cell? ⟨nb,2,none⟩=some (.int .i64 n.t)∧w'.cell? ⟨nb,3,none⟩=some (.slice ao n.l.length cap)) ((((WA.alloc (.cells (madeCells #[.bool false] (n.n.toNat+1)) 4)).alloc (.cells (madeCells #[.slice none 0 0] (n.n.toNat+1)) 23)).alloc (.cells (madeCells #[.slice none 0 0] (n.n.toNat+1)) 23)).alloc (.cells #[.int .i64 n.n,.int .i64 n.s,.int .i64 n.t,.slice ao n.l.length cap,.slice ro RL0.length rrc,.int .i64 x,.slice (some ⟨WA.heap.size+1+1,0,none⟩) (n.n.toNat+1) (n.n.toNat+1),.slice (some ⟨WA.heap.size+1,0,none⟩) (n.n.toNat+1) (n.n.toNat+1),.slice (some ⟨WA.heap.size,0,none⟩) (n.n.toNat+1) (n.n.toNat+1),.pointer (some ⟨p,0,none⟩),.func (.func 95) #[.pointer (some ⟨cb,0,none⟩)] #[]] 153)) from netBox_cells HNb4.out)
      refine HK.out _ _ ⟨hS4,?_⟩
      clear HK K'
      try simp only [Act.put,Rh.q1,Rh.q2,Rh.q3]
      refine Rh.tp 15 19 hS4 ?_
      refine Rh.done (by kernel_rfl) ?_ _
      go_wp2
      go_meet
      case rel=>exact ⟨_,WA.heap.size+1+1,WA.heap.size+1,WA.heap.size,rfl,WA,HWA,hid (nsb_bau WA n.n n.s n.t x (.slice ao n.l.length cap) (.slice ro RL0.length rrc) p cb (n.n.toNat+1))⟩
   obtain ⟨sb,lb,ab,pb,rfl,W,HW,HNS⟩:=hcut
   have HJ0:=hid (ns_start (x:=x) hrow hlow hrooms hlv hcb hrvb hlvb HA.out HBB.out HFO.out HNB.out HNBE.out HW.out.1 HW.out.2 HMM.out HNS.out)
   obtain ⟨lo,hlo⟩:∃ lo,lo=wc.heap.size:=⟨_,rfl⟩
   rw [← hlo] at HJ0
   generalize hB:wr.heap.size=B at HJ0
   generalize hb1:wB.heap.size=b1 at HJ0
   have HHEAD:=hid (fun k (hk:k<TL.length) v=>headL_step (l:=n.l) hk v)
   have HTAIL:=hid (fun k (hk:k<TL.length) v=>tailL_step (l:=n.l) hk v)
   have HHL:=hid (fun k v=>headL_len n.l TL k v)
   have HTLN:=hid (fun k v=>tailL_len n.l TL k v)
   have HEN:=hid (show ∀ w' r,ARow w' ao n.l→r<2*n.l.length→Calls Tryz.prog 49 #[.agg #[.int .i64 n.n,.int .i64 n.s,.int .i64 n.t,.slice ao n.l.length cap],.int .i64 (r:Int)] w' fun e w2=>e=.returned (.tuple #[.int .i64 (((trF n.l r).toNat:Nat):Int),.int .i64 (((trT n.l r).toNat:Nat):Int)])∧Below w'.heap.size w' w2 from fun w' r h1 h2=>ends_nat n ao cap r w' hR h1 h2)
   have HTF:=hid (show ∀ k,k<TL.length→TL.getD k 0<2*n.l.length∧(trF n.l (TL.getD k 0)).toNat<n.n.toNat+1∧(trT n.l (TL.getD k 0)).toNat<n.n.toNat+1 from fun k hk=>by
    have h1:=hL.lt _ (getD_mem hk)
    have h2:=trF_bd hR h1
    have h3:=trT_bd hR h1
    exact ⟨h1,by omega,by omega⟩)
   have HLC:=hid (show ∀ k,k<TL.length→∃ lbk,lo' = some ⟨lbk,0,none⟩∧∀ w' c U AA VS VA,NsJ n ao cap x w0 sb lb ab pb cb p (.slice ro RL0.length rrc) lo B b1 nb lo' lc TL RL0 (Fo.newS (List.replicate m 4611686018427387904)) w' c U AA VS VA→w'.cell? ⟨lbk,k,none⟩=some (.int .i64 ((TL.getD k 0:Nat):Int)) from fun k hk=>by
    obtain ⟨lbk,e1,_⟩:=own_cells encI_len hlv (at_amt (i:=k) (by rw [encW_len];exact hk))
    refine ⟨lbk,e1,fun w' c U AA VS VA h=>?_⟩
    obtain ⟨l2,e2,_,_,e4,_⟩:=own_cells encI_len h.leads (at_amt (i:=k) (by rw [encW_len];exact hk))
    rw [e1] at e2
    simp only [Option.some.injEq,Addr.mk.injEq,and_true,true_and] at e2
    subst e2
    have c0:=e4 0 _ rfl
    rw [show k*1+0=k by omega,encW_at hk] at c0
    exact c0)
   have HEND:=hid (show ∀ w' c VS VA,NsJ n ao cap x w0 sb lb ab pb cb p (.slice ro RL0.length rrc) lo B b1 nb lo' lc TL RL0 (Fo.newS (List.replicate m 4611686018427387904)) w' c (headL n.l TL TL.length) (tailL n.l TL TL.length) VS VA→_ from fun w' c VS VA h=>NsJ.done (h.same (U':=fun v=>TL.filter fun r=>decide ((trF n.l r).toNat=v)) (fun v _=>by unfold headL;rw [List.take_length]) (fun v _=>rfl)))
   have HK:=hid hTL
   have hkk:TL.length≤1000000:=hTL
   clear hR hL hTL hrow hlow hrooms hlv hcnt hcb hrvb hlvb HA HBB HFO HNB HNBE HW HNS hwN hmkr hmkb n0 n1 n2 n3 hN1 hN0 hcl hmd hlo hB hb1
   clear HN0
   obtain ⟨K,hKK⟩:∃ K,K=TL.length:=⟨_,rfl⟩
   rw [← hKK] at hkk ⊢
   have HKT:=hid hKK
   clear hKK
   go_wp2
   go_loopg [17,18,19,61] K (fun gg s17 s18 s19 s61 wr2=>(∃ z,s17=z)∧(∃ z,s18=z)∧(∃ z,s19=z)∧∃ (j:Nat) (VS VA:Nat→Value),s61=.int .i64 (j:Int)∧j+gg=K∧Hid (NsJ n ao cap x w0 sb lb ab pb cb p (.slice ro RL0.length rrc) lo B b1 nb lo' lc TL RL0 (Fo.newS (List.replicate m 4611686018427387904)) wr2 (c0+m+j) (headL n.l TL j) (tailL n.l TL j) VS VA))
   case atStart=>exact ⟨⟨_,rfl⟩,⟨_,rfl⟩,⟨_,rfl⟩,0,_,_,rfl,by omega,hid (HJ0.out.same (fun v _=>rfl) (fun v _=>rfl))⟩
   case round =>
    clear HJ0
    obtain ⟨⟨z17,rfl⟩,⟨z18,rfl⟩,⟨z19,rfl⟩,j,VS,VA,rfl,hjg,HJ⟩:=hrel
    by_cases hjn:j<K
    ·obtain ⟨hr,ht,hy⟩:=HTF.out j (by rw [← HKT.out];exact hjn)
     obtain ⟨lbk,rfl,hlc⟩:=HLC.out j (by rw [← HKT.out];exact hjn)
     have l0:=hlc _ _ _ _ _ _ HJ.out
     clear hlc
     have HHS:=hid (HHEAD.out j (by rw [← HKT.out];exact hjn))
     have HTS:=hid (HTAIL.out j (by rw [← HKT.out];exact hjn))
     generalize TL.getD j 0=r at *
     have hji:(j:Int)<(K:Int):=by omega
     have hj0:(0:Int)≤(j:Int):=by omega
     have hw1:IntKind.i64.wrap ((j:Int)+1)=((j+1:Nat):Int):=by rw [IntKind.wrap_i64];omega
     have HMO:=hid (more_eq wr cb (c0+m+j) (by simp [World.cell?,HJ.out.cnt]) (by simp [World.frozen?,HJ.out.cnt]) (by omega))
     have HC:=hid HJ.out.count
     clear HJ
     go_wp2_with fail
     refine HMO.out.mono ?_
     rintro e w3 ⟨rfl,hw3⟩
     have h3:=HC.out
     rw [← hw3] at h3
     have H3:=hid h3
     have HE3:=hid (HEN.out _ r (H3.out.row0.kept H3.out.low) hr)
     obtain ⟨n0,n1,n2,n3⟩:=netBox_cells H3.out.net
     clear h3 hw3 HC HMO l0
     go_wp2_with fail
     refine HE3.out.mono ?_
     rintro e w4 ⟨rfl,hb⟩
     have H4:=hid (H3.out.below hb)
     clear hb H3 HE3 n0 n1 n2 n3
     generalize (trT n.l r).toNat=y at *
     generalize (trF n.l r).toNat=t at *
     obtain ⟨b0,b1',b2,b3,b4,b5,c6,b7,b8,b9,b10⟩:=tblk_cells H4.out.blk
     have u0:=H4.out.gu.cell ht
     clear b0 b1' b2 b3 b4 b5 b7 b8 b9 b10
     obtain ⟨at_,ct,hVT,_,_,_,_,_,_⟩:=Rw.own_row encI_len (H4.out.gu.own t ht)
     rw [encW_len] at hVT
     rw [hVT] at u0
     have HVT:=hid hVT
     have HDD:=hid (H4.out.below (below_drew ((Below.refl w4.heap.size w4).alloc (Nat.le_refl _) (.cells #[.int .i64 (r:Int)] 3))))
     have HVD:=hid (show OwnI (w4.alloc (.cells #[.int .i64 (r:Int)] 3)).drew lo (.slice at_ (headL n.l TL j t).length ct) (encW (headL n.l TL j t)) from by have:=HDD.out.gu.own t ht;rw [hVT] at this;exact this)
     have HRD:=hid (show IRow (w4.alloc (.cells #[.int .i64 (r:Int)] 3)).drew (some ⟨w4.heap.size,0,none⟩) [(r:Int)] from (irow_one' w4 rfl (r:Int) 3).kept (below_drew (Below.refl _ _)))
     have HLN:=hid (show (encW (headL n.l TL j t)).length+([(r:Int)]:List Int).length≤1099511627776 by have:=HHL.out j t;rw [encW_len];simp;omega)
     have HLD:=hid (show lo≤(w4.alloc (.cells #[.int .i64 (r:Int)] 3)).drew.heap.size from HDD.out.sz)
     have hti:(t:Int)<(n.n.toNat:Int)+1:=by omega
     have ht0:(0:Int)≤(t:Int):=by omega
     have hyi:(y:Int)<(n.n.toNat:Int)+1:=by omega
     have hti2:(t:Int)<max n.n 0+1:=by omega
     have hyi2:(y:Int)<max n.n 0+1:=by omega
     have hy0:(0:Int)≤(y:Int):=by omega
     clear hVT
     go_upto_region 15 with fail
     have hS0:=(show (fun w':World=>w'.cell? ⟨sb,6,none⟩=some (.slice (some ⟨lb,0,none⟩) (n.n.toNat+1) (n.n.toNat+1))∧w'.cell? ⟨lb,t,none⟩=some (.slice at_ (headL n.l TL j t).length ct)) w4.drew from ⟨c6,u0⟩)
     have hS1:=(show (fun w':World=>w'.cell? ⟨sb,6,none⟩=some (.slice (some ⟨lb,0,none⟩) (n.n.toNat+1) (n.n.toNat+1))∧w'.cell? ⟨lb,t,none⟩=some (.slice at_ (headL n.l TL j t).length ct)) (w4.alloc (.cells #[.int .i64 (r:Int)] 3)).drew from ⟨held_new c6,held_new u0⟩)
     refine Rg.start (S:=(fun w':World=>w'.cell? ⟨sb,6,none⟩=some (.slice (some ⟨lb,0,none⟩) (n.n.toNat+1) (n.n.toNat+1))∧w'.cell? ⟨lb,t,none⟩=some (.slice at_ (headL n.l TL j t).length ct))) (last:=16) (by kernel_rfl) ?_
     refine Rg.tp 40 0 hS0 ?_
     refine Rg.tp 40 1 hS0 ?_
     refine Rg.tp 40 2 hS0 ?_
     refine Rg.tp 40 3 hS0 ?_
     refine Rg.tp 40 4 hS0 ?_
     refine Rg.tp 40 5 hS0 ?_
     refine Rg.tp 40 6 hS0 ?_
     refine Rg.tp 40 7 hS0 ?_
     refine Rg.tp 40 8 hS0 ?_
     refine Rg.tp 40 9 hS0 ?_
     refine Rg.tp 40 10 hS0 ?_
     refine Rg.tp 40 11 hS0 ?_
     refine Rg.tp 40 12 hS0 ?_
     refine Rg.step (i:=13) (by kernel_rfl) rfl fun K' hK'=>?_
     have HK:=hid hK'
     clear hK'
     go_simp
     refine HK.out _ _ ⟨fun _=>hS1,?_⟩
     clear HK K'
     try simp only [Act.put,Rh.q1,Rh.q2,Rh.q3]
     refine Rg.step (i:=14) (by kernel_rfl) rfl fun K' hK'=>?_
     refine Rw.stepAt elemI encI_len encI_one (by rfl) (.tmp 84) (.tmp 86) (by rfl) lo (.slice at_ (headL n.l TL j t).length ct) (encW (headL n.l TL j t)) (by rfl) HVD.out ⟨w4.heap.size,0,none⟩ 1 [(r:Int)] 1 rfl (by rfl) HRD.out HLN.out HLD.out ?_
     intro v' w' hown' hgrow hat'
     rw [← encW_snoc] at hown'
     obtain ⟨o4,c4v,hv4,_,_,_,_⟩:=Rw.own_row encI_len hown'
     rw [encW_len,List.length_append,List.length_singleton] at hv4
     subst hv4
     have HOW':=hid hown'
     have HGR:=hid hgrow
     have HAT:=hid hat'
     have uf':=World.rowIs.frozen (World.rowIs.of_block HDD.out.gu.row (hgrow.block lb HDD.out.gu.lt (fun e=>by have:=(Rw.own_lt HVD.out lb e.symm).1;have:=HDD.out.gu.out;omega))) t
     have hS2:=(show (fun w':World=>w'.cell? ⟨sb,6,none⟩=some (.slice (some ⟨lb,0,none⟩) (n.n.toNat+1) (n.n.toNat+1))∧w'.cell? ⟨lb,t,none⟩=some (.slice at_ (headL n.l TL j t).length ct)) w' from ⟨held_grow hgrow (fun e=>by have:=(Rw.own_lt HVD.out sb e).1;have:=HDD.out.ups;omega) c6,held_grow hgrow (fun e=>by have:=(Rw.own_lt HVD.out lb e).1;have:=HDD.out.ups;omega) u0⟩)
     clear hown' hgrow hat'
     refine hK' _ _ ⟨fun _=>hS2,?_⟩
     clear hK' K'
     try simp only [Act.put,Rh.q1,Rh.q2,Rh.q3]
     refine Rg.tp 40 15 hS2 ?_
     refine Rg.step (i:=16) (by kernel_rfl) rfl fun K' hK'=>?_
     have HK:=hid hK'
     clear hK'
     go_simp
     refine HK.out _ _ ⟨fun h=>absurd rfl h,?_⟩
     clear HK K'
     try simp only [Act.put,Rh.q1,Rh.q2,Rh.q3]
     refine Rg.finished (by kernel_rfl) ?_ _
     have HJ5:=hid (NsJ.putU HDD.out ht (u:=headL n.l TL j t ++ [r]) (by rw [HVT.out];exact HGR.out) HOW'.out (by rw [HVT.out];exact HAT.out))
     clear HVD HRD HLN HLD HDD HGR HOW' HAT uf' hS0 hS1 hS2 c6 u0 HVT H4
     generalize (w'.setCell ⟨lb,t,none⟩ (.slice o4 ((headL n.l TL j t).length+1) c4v))=w5 at *
     have HJ5:=hid (HJ5.out.same (U':=headL n.l TL (j+1)) (AA':=tailL n.l TL j) (fun v _=>HHS.out v) (fun v _=>rfl))
     obtain ⟨VS2,HJ5⟩:∃ VS2,Hid (NsJ n ao cap x w0 sb lb ab pb cb p (.slice ro RL0.length rrc) lo B b1 nb (some ⟨lbk,0,none⟩) lc TL RL0 (Fo.newS (List.replicate m 4611686018427387904)) w5 (c0+m+j+1) (headL n.l TL (j+1)) (tailL n.l TL j) VS2 VA):=⟨_,HJ5⟩
     clear HHS
     obtain ⟨b0,b1',b2,b3,b4,b5,b6,c6,b8,b9,b10⟩:=tblk_cells HJ5.out.blk
     have u0:=HJ5.out.ga.cell hy
     clear b0 b1' b2 b3 b4 b5 b6 b8 b9 b10
     obtain ⟨at_,ct,hVT,_,_,_,_,_,_⟩:=Rw.own_row encI_len (HJ5.out.ga.own y hy)
     rw [encW_len] at hVT
     rw [hVT] at u0
     have HVT:=hid hVT
     have HDD:=hid (HJ5.out.below (below_drew ((Below.refl w5.heap.size w5).alloc (Nat.le_refl _) (.cells #[.int .i64 (t:Int)] 3))))
     have HVD:=hid (show OwnI (w5.alloc (.cells #[.int .i64 (t:Int)] 3)).drew lo (.slice at_ (tailL n.l TL j y).length ct) (encW (tailL n.l TL j y)) from by have:=HDD.out.ga.own y hy;rw [hVT] at this;exact this)
     have HRD:=hid (show IRow (w5.alloc (.cells #[.int .i64 (t:Int)] 3)).drew (some ⟨w5.heap.size,0,none⟩) [(t:Int)] from (irow_one' w5 rfl (t:Int) 3).kept (below_drew (Below.refl _ _)))
     have HLN:=hid (show (encW (tailL n.l TL j y)).length+([(t:Int)]:List Int).length≤1099511627776 by have:=HTLN.out j y;rw [encW_len];simp;omega)
     have HLD:=hid (show lo≤(w5.alloc (.cells #[.int .i64 (t:Int)] 3)).drew.heap.size from HDD.out.sz)
     clear hVT
     go_upto_region 16 with fail
     have hS0:=(show (fun w':World=>w'.cell? ⟨sb,7,none⟩=some (.slice (some ⟨ab,0,none⟩) (n.n.toNat+1) (n.n.toNat+1))∧w'.cell? ⟨ab,y,none⟩=some (.slice at_ (tailL n.l TL j y).length ct)) w5.drew from ⟨c6,u0⟩)
     have hS1:=(show (fun w':World=>w'.cell? ⟨sb,7,none⟩=some (.slice (some ⟨ab,0,none⟩) (n.n.toNat+1) (n.n.toNat+1))∧w'.cell? ⟨ab,y,none⟩=some (.slice at_ (tailL n.l TL j y).length ct)) (w5.alloc (.cells #[.int .i64 (t:Int)] 3)).drew from ⟨held_new c6,held_new u0⟩)
     refine Rg.start (S:=(fun w':World=>w'.cell? ⟨sb,7,none⟩=some (.slice (some ⟨ab,0,none⟩) (n.n.toNat+1) (n.n.toNat+1))∧w'.cell? ⟨ab,y,none⟩=some (.slice at_ (tailL n.l TL j y).length ct))) (last:=16) (by kernel_rfl) ?_
     refine Rg.tp 40 0 hS0 ?_
     refine Rg.tp 40 1 hS0 ?_
     refine Rg.tp 40 2 hS0 ?_
     refine Rg.tp 40 3 hS0 ?_
     refine Rg.tp 40 4 hS0 ?_
     refine Rg.tp 40 5 hS0 ?_
     refine Rg.tp 40 6 hS0 ?_
     refine Rg.tp 40 7 hS0 ?_
     refine Rg.tp 40 8 hS0 ?_
     refine Rg.tp 40 9 hS0 ?_
     refine Rg.tp 40 10 hS0 ?_
     refine Rg.tp 40 11 hS0 ?_
     refine Rg.tp 40 12 hS0 ?_
     refine Rg.step (i:=13) (by kernel_rfl) rfl fun K' hK'=>?_
     have HK:=hid hK'
     clear hK'
     go_simp
     refine HK.out _ _ ⟨fun _=>hS1,?_⟩
     clear HK K'
     try simp only [Act.put,Rh.q1,Rh.q2,Rh.q3]
     refine Rg.step (i:=14) (by kernel_rfl) rfl fun K' hK'=>?_
     refine Rw.stepAt elemI encI_len encI_one (by rfl) (.tmp 100) (.tmp 102) (by rfl) lo (.slice at_ (tailL n.l TL j y).length ct) (encW (tailL n.l TL j y)) (by rfl) HVD.out ⟨w5.heap.size,0,none⟩ 1 [(t:Int)] 1 rfl (by rfl) HRD.out HLN.out HLD.out ?_
     intro v' w' hown' hgrow hat'
     rw [← encW_snoc] at hown'
     obtain ⟨o4,c4v,hv4,_,_,_,_⟩:=Rw.own_row encI_len hown'
     rw [encW_len,List.length_append,List.length_singleton] at hv4
     subst hv4
     have HOW':=hid hown'
     have HGR:=hid hgrow
     have HAT:=hid hat'
     have uf':=World.rowIs.frozen (World.rowIs.of_block HDD.out.ga.row (hgrow.block ab HDD.out.ga.lt (fun e=>by have:=(Rw.own_lt HVD.out ab e.symm).1;have:=HDD.out.ga.out;omega))) y
     have hS2:=(show (fun w':World=>w'.cell? ⟨sb,7,none⟩=some (.slice (some ⟨ab,0,none⟩) (n.n.toNat+1) (n.n.toNat+1))∧w'.cell? ⟨ab,y,none⟩=some (.slice at_ (tailL n.l TL j y).length ct)) w' from ⟨held_grow hgrow (fun e=>by have:=(Rw.own_lt HVD.out sb e).1;have:=HDD.out.ups;omega) c6,held_grow hgrow (fun e=>by have:=(Rw.own_lt HVD.out ab e).1;have:=HDD.out.ups;omega) u0⟩)
     clear hown' hgrow hat'
     refine hK' _ _ ⟨fun _=>hS2,?_⟩
     clear hK' K'
     try simp only [Act.put,Rh.q1,Rh.q2,Rh.q3]
     refine Rg.tp 40 15 hS2 ?_
     refine Rg.step (i:=16) (by kernel_rfl) rfl fun K' hK'=>?_
     have HK:=hid hK'
     clear hK'
     go_simp
     refine HK.out _ _ ⟨fun h=>absurd rfl h,?_⟩
     clear HK K'
     try simp only [Act.put,Rh.q1,Rh.q2,Rh.q3]
     refine Rg.finished (by kernel_rfl) ?_ _
     have HJ6:=hid ((NsJ.putA HDD.out hy (u:=tailL n.l TL j y ++ [t]) (by rw [HVT.out];exact HGR.out) HOW'.out (by rw [HVT.out];exact HAT.out)).same (U':=headL n.l TL (j+1)) (AA':=tailL n.l TL (j+1)) (fun v _=>rfl) (fun v _=>HTS.out v))
     clear HVD HRD HLN HLD HDD HGR HOW' HAT uf' hS0 hS1 hS2 c6 u0 HVT HJ5
     go_wp2
     go_roundg (K-(j+1))
     case measure=>omega
     case rel=>exact ⟨⟨_,rfl⟩,⟨_,rfl⟩,⟨_,rfl⟩,j+1,_,_,rfl,by omega,HJ6⟩
    ·obtain rfl:j=K:=by omega
     have hE:=HJ.out
     rw [HKT.out] at hE
     have HE:=hid (HEND.out _ _ _ _ hE)
     clear hE HJ
     go_wp2
     go_ret
     obtain ⟨e1,e2,e3⟩:=HE.out
     rw [HMM.out] at e1
     exact ⟨sb,lb,ab,pb,p,lo,_,B,b1,VA,VS,rfl,by rw [← HKT.out] at e1 ⊢;exact e1,e2,e3⟩
end
end Ne
end Go.Proofs.YthhlfphnokdfaaaGreat
