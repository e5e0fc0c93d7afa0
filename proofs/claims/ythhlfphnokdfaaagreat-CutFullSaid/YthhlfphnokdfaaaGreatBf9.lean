/-
  Rbox, Res6, Mct
-/
import Derived.Test.YthhlfphnokdfaaaGreatBf5
import Derived.Test.YthhlfphnokdfaaaGreatBf3
import Derived.Test.YthhlfphnokdfaaaGreatBf2
import Derived.Laws.CopyOwn
import Derived.Test.YthhlfphnokdfaaaGreatBf8
import Derived.Deep.LoopGhost
import Derived.Test.YthhlfphnokdfaaaGreatBf6
import Derived.Test.YthhlfphnokdfaaaGreatBf1
set_option linter.unusedVariables false
set_option linter.unusedSimpArgs false
set_option maxRecDepth 100000
set_option maxHeartbeats 4000000
namespace Go.Proofs.YthhlfphnokdfaaaGreat
open Go.ChangeShapes Go.WideShapes Go.ChangeAt Go.RowKit
open Lib (hid)
namespace Ne
theorem infoR:(Tryz.prog.info? 23).map (fun i=>(i.zero,i.size,i.bytes))=some (some (.slice none 0 0),1,24):=by kernel_rfl
theorem make_r (n:Nat) (h:n≤1000000) (w:World):(Instr.makeSlice 84 (.int .i64 (n:Int)) (.int .i64 (n:Int))).run Tryz.prog w=.ok (.slice (some ⟨w.heap.size,0,none⟩) n n) (w.alloc (.cells (madeCells #[.slice none 0 0] n) 23)) :=
 run_make_row' 84 23 (.slice none 0 0) 24 Tryz.underlying84 infoR rfl .i64 .i64 n (by omega) (by omega) w
structure GBox (w:World) (lb n:Nat) (VS:Nat→Value) (U:Nat→List Nat):Prop where
 row:w.rowIs lb 23 n VS
 own:∀ v,v<n→OwnI w (lb+1) (VS v) (encW (U v))
 sep:∀ v v',v<n→v' < n→v≠v'→∀ g,(VS v).ownBlock=some g→(VS v').ownBlock≠some g
section
variable {w w2:World} {lb n:Nat} {VS:Nat→Value} {U:Nat→List Nat}
theorem gbox_made (w:World) (n:Nat) {b:Nat} (hb:b=w.heap.size):GBox (w.alloc (.cells (madeCells #[.slice none 0 0] n) 23)) b n (fun _=>.slice none 0 0) (fun _=>[]):=by
 subst hb
 exact ⟨World.rowIs_made w (.slice none 0 0) n 23,fun v _=>Rw.own_nil _ _,fun v v' _ _ _ g h=>by simp [Value.ownBlock] at h⟩
theorem GBox.below (h:GBox w lb n VS U) (hb:Below w.heap.size w w2):GBox w2 lb n VS U :=
 ⟨World.rowIs.of_block h.row (hb.block lb (World.rowIs.lt h.row)),fun v hv=>Rw.own_below (h.own v hv) hb,h.sep⟩
theorem GBox.alloc (h:GBox w lb n VS U) (o:Obj):GBox (w.alloc o) lb n VS U:=h.below ((Below.refl _ _).alloc (Nat.le_refl _) o)
theorem GBox.lt (h:GBox w lb n VS U):lb<w.heap.size:=World.rowIs.lt h.row
theorem GBox.cell (h:GBox w lb n VS U) {v:Nat} (hv:v<n):w.cell? ⟨lb,v,none⟩=some (VS v):=World.rowIs.cell h.row hv
theorem GBox.put (h:GBox w lb n VS U) {v:Nat} (hv:v<n) {x:Value} {u:List Nat} (hg:w.grownBy w2 (VS v).ownBlock) (ho:OwnI w2 (lb+1) x (encW u)) (hx:x.ownBlock=(VS v).ownBlock∨x.ownBlock=some w.heap.size) :
  GBox (w2.setCell ⟨lb,v,none⟩ x) lb n (fun j=>if j=v then x else VS j) (fun j=>if j=v then u else U j):=by
 have hne:some lb≠(VS v).ownBlock:=fun e=>by have:=(Rw.own_lt (h.own v hv) lb e.symm).1;omega
 have hrow:=World.rowIs.of_block h.row (hg.block lb h.lt hne)
 refine ⟨World.rowIs.set hrow v x,fun j hj=>?_,fun j j' hj hj' hd g hb=>?_⟩
 ·by_cases e:j=v
  ·subst e
   simp only [if_true]
   exact Rw.own_set ho (p:=⟨lb,j,none⟩) (fun e=>by have:=(Rw.own_lt ho lb e).1;omega) x
  ·simp only [if_neg e]
   have h1:=Rw.own_grown (h.own j hj) hg fun g hb e2=>h.sep v j hv hj (Ne.symm e) g e2.symm hb
   exact Rw.own_set h1 (p:=⟨lb,v,none⟩) (fun e=>by have:=(Rw.own_lt h1 lb e).1;omega) x
 ·by_cases e:j=v
  ·subst e
   simp only [if_true] at hb
   simp only [if_neg (Ne.symm hd)]
   intro hb2
   rcases hx with hx | hx
   ·rw [hx] at hb;exact h.sep j j' hj hj' hd g hb hb2
   ·rw [hx] at hb
    have:=(Rw.own_lt (h.own j' hj') g hb2).2
    simp at hb;omega
  ·simp only [if_neg e] at hb
   by_cases e':j' = v
   ·subst e'
    simp only [if_true]
    intro hb2
    rcases hx with hx | hx
    ·rw [hx] at hb2;exact h.sep j j' hj hj' hd g hb hb2
    ·rw [hx] at hb2
     have:=(Rw.own_lt (h.own j hj) g hb).2
     simp at hb2;omega
   ·simp only [if_neg e'];exact h.sep j j' hj hj' hd g hb
end
structure RBox (w:World) (lb lo hi n:Nat) (VS:Nat→Value) (U:Nat→List Nat):Prop where
 row:w.rowIs lb 23 n VS
 each:∀ v,v<n→RowOf w lo hi (VS v) (U v)
 out:lb<lo
 sz:hi≤w.heap.size
section
variable {w w2:World} {lb lo hi n:Nat} {VS:Nat→Value} {U:Nat→List Nat}
theorem RBox.of_g (h:GBox w lb n VS U):RBox w lb (lb+1) w.heap.size n VS U:=⟨h.row,fun v hv=>.of_own (h.own v hv),by omega,Nat.le_refl _⟩
theorem RBox.keep (h:RBox w lb lo hi n VS U) (hs:w.heap.size≤w2.heap.size) (hk:∀ b,b=lb∨(lo≤b∧b<hi)→w2.heap[b]? = w.heap[b]?):RBox w2 lb lo hi n VS U :=
 ⟨World.rowIs.of_block h.row (hk lb (.inl rfl)),fun v hv=>(h.each v hv).keep fun b h1 h2=>hk b (.inr ⟨h1,h2⟩),h.out,Nat.le_trans h.sz hs⟩
theorem RBox.lt (h:RBox w lb lo hi n VS U):lb<w.heap.size:=World.rowIs.lt h.row
theorem RBox.below (h:RBox w lb lo hi n VS U) (hb:Below w.heap.size w w2):RBox w2 lb lo hi n VS U :=
 h.keep hb.size fun b hb2=>hb.block b (by have:=h.lt;have:=h.sz;omega)
theorem RBox.alloc (h:RBox w lb lo hi n VS U) (o:Obj):RBox (w.alloc o) lb lo hi n VS U:=h.below ((Below.refl _ _).alloc (Nat.le_refl _) o)
theorem RBox.far (h:RBox w lb lo hi n VS U) {p:Addr} (h1:p.block≠lb) (h2:p.block<lo∨hi≤p.block) (v:Value):RBox (w.setCell p v) lb lo hi n VS U :=
 h.keep (by simp [World.setCell]) fun b hb=>Below.heap_setCell _ _ _ _ (by omega)
theorem RBox.grown (h:RBox w lb lo hi n VS U) {row:Option Nat} (hg:w.grownBy w2 row) (hr:∀ g,row=some g→g≠lb∧(g<lo∨hi≤g)):RBox w2 lb lo hi n VS U :=
 h.keep hg.size fun b hb=>hg.block b (by have:=h.lt;have:=h.sz;omega) (fun e=>by have:=hr b e.symm;omega)
theorem RBox.cell (h:RBox w lb lo hi n VS U) {v:Nat} (hv:v<n):w.cell? ⟨lb,v,none⟩=some (VS v):=World.rowIs.cell h.row hv
theorem RBox.frozen (h:RBox w lb lo hi n VS U) (i:Nat):w.frozen? ⟨lb,i,none⟩=false:=World.rowIs.frozen h.row i
theorem RBox.put (h:RBox w lb lo hi n VS U) {v:Nat} (hv:v<n) {x:Value} {u:List Nat} (hx:RowOf w lo hi x u) :
  RBox (w.setCell ⟨lb,v,none⟩ x) lb lo hi n (fun j=>if j=v then x else VS j) (fun j=>if j=v then u else U j):=by
 have hk:∀ b,lo≤b→b<hi→(w.setCell ⟨lb,v,none⟩ x).heap[b]? = w.heap[b]?:=fun b h1 h2=>Below.heap_setCell _ _ _ _ (by have:=h.out;show b≠lb;omega)
 refine ⟨World.rowIs.set h.row v x,fun j hj=>?_,h.out,by have:=h.sz;simpa [World.setCell] using this⟩
 by_cases e:j=v
 ·subst e;simp only [if_true];exact hx.keep hk
 ·simp only [if_neg e];exact (h.each j hj).keep hk
end
structure Dfs (n:Net) (f:List Int) (x:Int) (M:List Bool) (way:List Nat) (U:Nat→List Nat):Prop where
 len:M.length=n.n.toNat+1
 src:M.getD n.s.toNat false=true
 sound:∀ i:Nat,M.getD i false=true→Rch n f x (i:Int)
 wayM:∀ v∈way,M.getD v false=true
 cls:∀ r,r<2*n.l.length→x≤roomN n.l f r→M.getD (trF n.l r).toNat false=true→M.getD (trT n.l r).toNat false=true∨((trF n.l r).toNat∈way∧r∈U (trF n.l r).toNat)
 sub:∀ v,v<n.n.toNat+1→∀ r∈U v,r<2*n.l.length∧trF n.l r=(v:Int)
 full:∀ v,v<n.n.toNat+1→M.getD v false=false→U v=fromL n.l (v:Int) (2*n.l.length)
 few:way.length+unmet M≤n.n.toNat+1
theorem dfs_start {n:Net} (hR:Right n) (f:List Int) (x:Int):Dfs n f x ((List.replicate (n.n.toNat+1) false).set n.s.toNat true) [n.s.toNat] (fun v=>fromL n.l (v:Int) (2*n.l.length)):=by
 have h0:=hR.s0
 have h1:=hR.s1
 have hs:n.s.toNat<(List.replicate (n.n.toNat+1) false).length:=by simp;omega
 have hg:=fun j=>getD_set _ n.s.toNat j hs
 have hu:=unmet_set hs (replB _ _)
 refine ⟨by simp,by rw [hg,if_pos rfl],fun i hi=>?_,fun v hv=>?_,fun r hr hx hm=>?_,fun v hv r hr=>fromL_mem.1 hr,fun v hv _=>rfl,?_⟩
 ·rw [hg] at hi
  by_cases e:i=n.s.toNat
  ·have:(i:Int)=n.s:=by omega
   rw [this];exact .base
  ·rw [if_neg e,replB] at hi;cases hi
 ·simp at hv;subst hv;rw [hg,if_pos rfl]
 ·rw [hg] at hm
  by_cases e:(trF n.l r).toNat=n.s.toNat
  ·refine .inr ⟨by simp [e],fromL_mem.2 ⟨hr,?_⟩⟩
   have:=trF_bd hR hr;omega
  ·rw [if_neg e,replB] at hm;cases hm
 ·rw [unmet_repl] at hu;simp only [List.length_singleton];omega
theorem dfs_push {n:Net} (hR:Right n) {f:List Int} {x:Int} {M:List Bool} {W0:List Nat} {u:Nat} {U:Nat→List Nat} (h:Dfs n f x M (W0 ++ [u]) U) (hu:u<n.n.toNat+1) {i r:Nat} (hi:i<(U u).length) (hr:(U u).getD i 0=r)
  (hpre:∀ j,j<i→x≤roomN n.l f ((U u).getD j 0)→M.getD (trT n.l ((U u).getD j 0)).toNat false=true) (hx:x≤roomN n.l f r) (hm:M.getD (trT n.l r).toNat false=false) :
  Dfs n f x (M.set (trT n.l r).toNat true) (W0 ++ [u] ++ [(trT n.l r).toNat]) (fun j=>if j=u then (U u).drop (i+1) else U j)∧unmet (M.set (trT n.l r).toNat true)+1=unmet M:=by
 have hru:r∈U u:=by rw [← hr];exact getD_mem hi
 obtain ⟨hr2,hrf⟩:=h.sub u hu r hru
 have hb:=trT_bd hR hr2
 have ht:(trT n.l r).toNat<M.length:=by rw [h.len];omega
 have hg:=fun j=>getD_set M (trT n.l r).toNat j ht
 have hun:=unmet_set ht hm
 have hMu:=h.wayM u (by simp)
 have hne:u≠(trT n.l r).toNat:=fun e=>by rw [← e,hMu] at hm;cases hm
 have hup:∀ j,M.getD j false=true→(M.set (trT n.l r).toNat true).getD j false=true:=fun j hj=>by rw [hg];split <;> simp_all
 refine ⟨⟨by simp [h.len],hup _ h.src,fun j hj=>?_,fun v hv=>?_,fun q hq hxq hmq=>?_,fun v hv q hq=>?_,fun v hv hmv=>?_,?_⟩,hun⟩
 ·rw [hg] at hj
  by_cases e:j=(trT n.l r).toNat
  ·have:(j:Int)=trT n.l r:=by omega
   rw [this]
   refine .step hr2 hx ?_
   rw [hrf];exact h.sound u hMu
  ·rw [if_neg e] at hj;exact h.sound j hj
 ·rcases List.mem_append.1 hv with h1 | h1
  ·exact hup v (h.wayM v h1)
  ·simp at h1;subst h1;rw [hg,if_pos rfl]
 ·rw [hg] at hmq
  by_cases e:(trF n.l q).toNat=(trT n.l r).toNat
  ·-- newly met
   refine .inr ⟨by simp [e],?_⟩
   try simp only
   rw [if_neg (by rw [e];exact Ne.symm hne),h.full _ (by have:=trF_bd hR hq;omega) (by rw [e];exact hm)]
   refine fromL_mem.2 ⟨hq,?_⟩
   have:=trF_bd hR hq;omega
  ·rw [if_neg e] at hmq
   rcases h.cls q hq hxq hmq with h1 | ⟨h1,h2⟩
   ·exact .inl (hup _ h1)
   ·by_cases e2:(trF n.l q).toNat=u
    ·rw [e2] at h2
     obtain ⟨j,hj,hjq⟩:=List.mem_iff_getElem.1 h2
     have hjd:(U u).getD j 0=q:=by rw [List.getD_eq_getElem?_getD,List.getElem?_eq_getElem hj,hjq];rfl
     rcases Nat.lt_trichotomy j i with h3 | h3 | h3
     ·exact .inl (hup _ (by have:=hpre j h3;rw [hjd] at this;exact this hxq))
     ·subst h3
      rw [hjd] at hr;subst hr
      exact .inl (by rw [hg,if_pos rfl])
     ·refine .inr ⟨by rw [e2];simp,?_⟩
      try simp only
      rw [if_pos e2]
      refine List.mem_iff_getElem.2 ⟨j-(i+1),by rw [List.length_drop];omega,?_⟩
      rw [List.getElem_drop,← hjq]
      congr 1;omega
    ·refine .inr ⟨List.mem_append_left _ h1,?_⟩
     try simp only
     rw [if_neg e2];exact h2
 ·try simp only at hq
  by_cases e:v=u
  ·subst e;rw [if_pos rfl] at hq;exact h.sub v hv q (List.mem_of_mem_drop hq)
  ·rw [if_neg e] at hq;exact h.sub v hv q hq
 ·rw [hg] at hmv
  by_cases e:v=(trT n.l r).toNat
  ·rw [if_pos e] at hmv;cases hmv
  ·rw [if_neg e] at hmv
   have:v≠u:=fun e=>by rw [e,hMu] at hmv;cases hmv
   try simp only
   rw [if_neg this];exact h.full v hv hmv
 ·have:=h.few
  simp only [List.length_append,List.length_singleton] at this ⊢
  omega
theorem dfs_pop {n:Net} (hR:Right n) {f:List Int} {x:Int} {M:List Bool} {W0:List Nat} {u:Nat} {U:Nat→List Nat} (h:Dfs n f x M (W0 ++ [u]) U)
  (hpre:∀ j,j<(U u).length→x≤roomN n.l f ((U u).getD j 0)→M.getD (trT n.l ((U u).getD j 0)).toNat false=true):Dfs n f x M W0 U:=by
 refine ⟨h.len,h.src,h.sound,fun v hv=>h.wayM v (List.mem_append_left _ hv),fun q hq hxq hmq=>?_,h.sub,h.full,?_⟩
 ·rcases h.cls q hq hxq hmq with h1 | ⟨h1,h2⟩
  ·exact .inl h1
  ·rcases List.mem_append.1 h1 with h3 | h3
   ·exact .inr ⟨h3,h2⟩
   ·simp at h3
    rw [h3] at h2
    obtain ⟨j,hj,hjq⟩:=List.mem_iff_getElem.1 h2
    have hjd:(U u).getD j 0=q:=by rw [List.getD_eq_getElem?_getD,List.getElem?_eq_getElem hj,hjq];rfl
    have:=hpre j hj
    rw [hjd] at this
    exact .inl (this hxq)
 ·have:=h.few
  simp only [List.length_append,List.length_singleton] at this
  omega
theorem dfs_end {n:Net} {f:List Int} {x:Int} {M:List Bool} {U:Nat→List Nat} (h:Dfs n f x M [] U):IsReach n f x M :=
 ⟨h.len,h.src,h.sound,fun r hr hx hm=>by
  rcases h.cls r hr hx hm with h1 | ⟨h1,_⟩
  ·exact h1
  ·simp at h1⟩
end Ne
end Go.Proofs.YthhlfphnokdfaaaGreat
namespace Go.Proofs.YthhlfphnokdfaaaGreat
open Go.ChangeShapes Go.WideShapes Go.ChangeAt Go.RowKit
open Lib (hid)
namespace Ne
section
variable {w w2:World} {b:Nat} {l:List Int}
end
def repL (m c:Nat) (a:Int):List Int:=List.replicate c a ++ List.replicate (m-c) 0
theorem repL_len {m c:Nat} (a:Int) (h:c≤m):(repL m c a).length=m:=by simp [repL];omega
theorem repL_at {m c j:Nat} (a:Int) (h:j<c):(repL m c a)[j]? = some a:=by simp [repL,h,List.getElem?_append]
theorem repL_put {m c k:Nat} (a:Int) (h:c+k≤m):splice ((repL m c a).map (Value.int .i64)) c ((List.replicate k a).map (Value.int .i64))=(repL m (c+k) a).map (Value.int .i64):=by
 unfold splice repL
 simp only [List.map_append,List.map_replicate,List.length_replicate]
 rw [List.take_left' (by simp),show List.drop (c+k) (List.replicate c (Value.int .i64 a) ++ List.replicate (m-c) (Value.int .i64 0))=List.replicate (m-(c+k)) (Value.int .i64 0) by
  rw [List.drop_append];simp;omega,← List.append_assoc,List.replicate_append_replicate]
theorem repL_zero (m:Nat) (a:Int):repL m 0 a=List.replicate m 0:=by simp [repL]
theorem repL_all (m:Nat) (a:Int):repL m m a=List.replicate m a:=by simp [repL]
def SBox (w:World) (b:Nat) (v:Value):Prop:=w.rowIs b 23 1 fun _=>v
section
variable {w w2:World} {b:Nat} {v:Value}
theorem SBox.cell (h:SBox w b v):w.cell? ⟨b,0,none⟩=some v:=World.rowIs.cell h (by omega)
theorem SBox.frozen (h:SBox w b v) (i:Nat):w.frozen? ⟨b,i,none⟩=false:=World.rowIs.frozen h i
theorem SBox.lt (h:SBox w b v):b<w.heap.size:=World.rowIs.lt h
theorem SBox.same (h:SBox w b v) (e:w2.heap[b]? = w.heap[b]?):SBox w2 b v:=World.rowIs.of_block h e
theorem SBox.kept (h:SBox w b v) (hb:Below w.heap.size w w2):SBox w2 b v:=h.same (hb.block b h.lt)
theorem SBox.far (h:SBox w b v) {p:Addr} (hp:b≠p.block) (x:Value):SBox (w.setCell p x) b v:=World.rowIs.setOther h hp x
theorem SBox.alloc (h:SBox w b v) (o:Obj):SBox (w.alloc o) b v:=World.rowIs.alloc h o
theorem SBox.set (h:SBox w b v) (x:Value):SBox (w.setCell ⟨b,0,none⟩ x) b x:=World.rowIs.congr (World.rowIs.set h 0 x) fun i hi=>by
 show (if i=0 then _ else _)=_
 rw [if_pos (by omega)]
theorem sbox_new (w:World) {b:Nat} (hb:b=w.heap.size) (v:Value):SBox (w.alloc (.cells #[v] 23)) b v:=by
 subst hb
 refine ⟨#[v],?_,rfl,fun i hi=>?_⟩
 ·show (w.heap.push _)[w.heap.size]? = _;simp
 ·obtain rfl:i=0:=by omega
  rfl
end
end Ne
namespace Ne
structure ReachAns (n:Net) (f:List Int) (x:Int) (w:World) (ao:Option Addr) (M:List Bool):Prop where
 bad:reE n f x≠0→M=[]
 good:reE n f x=0→IsReach n f x M∧∃ b,ao=some ⟨b,0,none⟩∧BBox w b M
theorem reE_ok {n:Net} {f:List Int} {x:Int} (h:reE n f x=0):chkF n f=0∧1≤x:=by
 unfold reE at h
 by_cases c:chkF n f=0
 ·rw [if_neg (by simpa using c)] at h
  by_cases d:x<1
  ·rw [if_pos d] at h;cases h
  ·exact ⟨c,by omega⟩
 ·rw [if_pos c] at h;exact absurd h c
theorem ret2w {v:Value} {a b:Int} (h:a=b):Ending.returned (.tuple #[v,.int .i64 a])=.returned (.tuple #[v,.int .i64 b]):=by rw [h]
end Ne
namespace Ne
structure Marked (n:Net) (S:List Int) (B:Nat) (w:World) (v:Value):Prop where
 bad:cutE n S≠0→v=.map none
 good:cutE n S=0→∃ b k,v=.map (some b)∧B≤b∧MkBox w b k fun x=>hasL S (x:Int)
theorem mark_any (n:Net) (ao:Option Addr) (cap:Nat) (so:Option Addr) (sc:Nat) (S:List Int) (w:World) (hr:ARow w ao n.l) (hs:IRow w so S) (hl:n.l.length≤1000000) (hok:∀ a∈n.l,in64 a.cap) :
  Calls Tryz.prog 34 #[encN n ao cap,.slice so S.length sc] w fun e w'=>∃ v,e=.returned (.tuple #[v,.int .i64 (cutE n S)])∧Marked n S w.heap.size w' v∧Below w.heap.size w w':=by
 have CK:=hid (fun (w':World) (b:Nat) (h1:ARow w' ao n.l) (h2:LBox w' b (List.replicate n.l.length 0))=>show Calls Tryz.prog 23 #[encN n ao cap,.slice (some ⟨b,0,none⟩) n.l.length n.l.length] w' fun e w2=>e=.returned (.int .i64 (checkN n))∧Below w'.heap.size w' w2 by
  have:=fchk_any n ao cap (some ⟨b,0,none⟩) n.l.length (List.replicate n.l.length 0) w' h1 h2.irow hl hok
  rw [chkF_nought,List.length_replicate] at this
  exact this)
 have hmk:=make_l n.l.length hl
 by_cases c0:checkN n=0
 case neg =>
  have HE:=hid (cutE_net S c0)
  have HM:=hid (show ∀ w',Marked n S w.heap.size w' (.map none) from fun w'=>⟨fun _=>rfl,fun h=>absurd h (by rw [HE.out];exact c0)⟩)
  generalize hMK:Marked n S w.heap.size=MK at *
  clear hMK
  generalize cutE n S=ce at *
  generalize checkN n=c at *
  have c1:(c == 0)=false:=by simpa using c0
  have c1n:(c != 0)=true:=by simpa using c0
  clear hs c0 hok
  obtain ⟨nn,ns,nt,l⟩:=n
  simp only at hr hl CK hmk ⊢
  have HNB:=hid (netBox_new w nn ns nt (.slice ao l.length cap))
  have HB0:=hid ((Below.refl w.heap.size w).alloc (Nat.le_refl _) (.cells #[.int .i64 nn,.int .i64 ns,.int .i64 nt,.slice ao l.length cap] 27))
  have HR:=hid hr
  clear hr
  obtain ⟨n0,n1,n2,n3⟩:=netBox_cells HNB.out
  have hmm:=@run_makeMap Tryz.prog
  go_enter Tryz.func34,Tryz.ntmps34
  go_wp2
  generalize hW0:(w.alloc (.cells #[.int .i64 nn,.int .i64 ns,.int .i64 nt,.slice ao l.length cap] 27))=W0 at *
  have HBZ:=hid (show Below w.heap.size w (W0.alloc (.cells (madeCells #[.int .i64 0] l.length) 2)).drew from below_drew (HB0.out.alloc HB0.out.size _))
  have HNZ:=hid (show NetBox (W0.alloc (.cells (madeCells #[.int .i64 0] l.length) 2)).drew w.heap.size nn ns nt (.slice ao l.length cap) from netBox_alloc HNB.out _)
  have HLB:=hid (show LBox (W0.alloc (.cells (madeCells #[.int .i64 0] l.length) 2)).drew W0.heap.size (List.replicate l.length 0) from lbox_made W0 l.length rfl)
  clear hW0
  have hS0:=(show (fun w':World=>w'.cell? ⟨w.heap.size,0,none⟩=some (.int .i64 nn)∧w'.cell? ⟨w.heap.size,1,none⟩=some (.int .i64 ns)∧w'.cell? ⟨w.heap.size,2,none⟩=some (.int .i64 nt)∧w'.cell? ⟨w.heap.size,3,none⟩=some (.slice ao l.length cap)) W0.drew from ⟨n0,n1,n2,n3⟩)
  have hS1:=(show (fun w':World=>w'.cell? ⟨w.heap.size,0,none⟩=some (.int .i64 nn)∧w'.cell? ⟨w.heap.size,1,none⟩=some (.int .i64 ns)∧w'.cell? ⟨w.heap.size,2,none⟩=some (.int .i64 nt)∧w'.cell? ⟨w.heap.size,3,none⟩=some (.slice ao l.length cap)) (W0.alloc (.cells (madeCells #[.int .i64 0] l.length) 2)).drew from ⟨held_new n0,held_new n1,held_new n2,held_new n3⟩)
  refine Rh.start (S:=(fun w':World=>w'.cell? ⟨w.heap.size,0,none⟩=some (.int .i64 nn)∧w'.cell? ⟨w.heap.size,1,none⟩=some (.int .i64 ns)∧w'.cell? ⟨w.heap.size,2,none⟩=some (.int .i64 nt)∧w'.cell? ⟨w.heap.size,3,none⟩=some (.slice ao l.length cap))) (by kernel_rfl) ?_
  refine Rh.tp 11 0 hS0 ?_
  refine Rh.tp 12 1 hS0 ?_
  refine Rh.tp 13 2 hS0 ?_
  refine Rh.tp 14 3 hS0 ?_
  refine Rh.step (i:=4) (by kernel_rfl) rfl fun K' hK'=>?_
  have HK:=hid hK'
  clear hK'
  go_simp
  refine HK.out _ _ ⟨hS1,?_⟩
  clear HK K'
  try simp only [Act.put,Rh.q1,Rh.q2,Rh.q3]
  refine Rh.step (i:=5) (by kernel_rfl) rfl fun K' hK'=>?_
  have HK:=hid hK'
  clear hK'
  go_simp
  refine (CK.out _ W0.heap.size (HR.out.kept HBZ.out) HLB.out).mono ?_
  rintro e w3 ⟨rfl,hb⟩
  have HB3:=hid (HBZ.out.trans (hb.mono HBZ.out.size))
  have HN3:=hid (netBox_below HNZ.out hb (netBox_lt HNZ.out))
  have hS2:=(show (fun w':World=>w'.cell? ⟨w.heap.size,0,none⟩=some (.int .i64 nn)∧w'.cell? ⟨w.heap.size,1,none⟩=some (.int .i64 ns)∧w'.cell? ⟨w.heap.size,2,none⟩=some (.int .i64 nt)∧w'.cell? ⟨w.heap.size,3,none⟩=some (.slice ao l.length cap)) w3 from netBox_cells HN3.out)
  clear hb
  refine HK.out _ _ ⟨hS2,?_⟩
  clear HK K'
  try simp only [Act.put,Rh.q1,Rh.q2,Rh.q3]
  refine Rh.tp 6 6 hS2 ?_
  refine Rh.done (by kernel_rfl) ?_ _
  go_wp2
  go_ret2
  exact ⟨.map none,ret2w HE.out.symm,HM.out _,HB3.out⟩
 have hR:=right_of c0
 have hN0:=hR.n0
 have hN1:=hR.n1
 have hS0':=hR.s0
 have hS1':=hR.s1
 have hT0':=hR.t0
 have hT1':=hR.t1
 rw [c0] at CK
 have HBAD:=hid (show ∀ w',cutE n S≠0→Marked n S w.heap.size w' (.map none) from fun w' h=>⟨fun _=>rfl,fun h2=>absurd h2 h⟩)
 have HGOOD:=hid (show ∀ w' b k,cutE n S=0→w.heap.size≤b→MkBox w' b k (fun x=>hasL S (x:Int))→Marked n S w.heap.size w' (.map (some b)) from fun w' b k h h1 h2=>⟨fun h3=>absurd h h3,fun _=>⟨b,k,rfl,h1,h2⟩⟩)
 have HARG:=hid (show ¬ Rises n.n S→cutE n S=1 from fun h=>cutE_arg c0 h)
 have HEND:=hid (show Rises n.n S→(hasL S n.s=false∨hasL S n.t=true)→cutE n S=9 from fun h h2=>cutE_end c0 h h2)
 have HOK:=hid (show Rises n.n S→hasL S n.s=true→hasL S n.t=false→cutE n S=0 from fun h h2 h3=>cutE_fine c0 h h2 h3)
 generalize hMK:Marked n S w.heap.size=MK at *
 clear hMK
 generalize cutE n S=ce at *
 have HS:=hid hs
 clear hs hok c0 hR
 obtain ⟨nn,ns,nt,l⟩:=n
 simp only at hr hl CK hmk ⊢
 have HNB:=hid (netBox_new w nn ns nt (.slice ao l.length cap))
 have HB0:=hid ((Below.refl w.heap.size w).alloc (Nat.le_refl _) (.cells #[.int .i64 nn,.int .i64 ns,.int .i64 nt,.slice ao l.length cap] 27))
 have HR:=hid hr
 clear hr
 obtain ⟨n0,n1,n2,n3⟩:=netBox_cells HNB.out
 have hmm:=@run_makeMap Tryz.prog
 go_enter Tryz.func34,Tryz.ntmps34
 go_wp2
 generalize hW0:(w.alloc (.cells #[.int .i64 nn,.int .i64 ns,.int .i64 nt,.slice ao l.length cap] 27))=W0 at *
 have HBZ:=hid (show Below w.heap.size w (W0.alloc (.cells (madeCells #[.int .i64 0] l.length) 2)).drew from below_drew (HB0.out.alloc HB0.out.size _))
 have HNZ:=hid (show NetBox (W0.alloc (.cells (madeCells #[.int .i64 0] l.length) 2)).drew w.heap.size nn ns nt (.slice ao l.length cap) from netBox_alloc HNB.out _)
 have HLB:=hid (show LBox (W0.alloc (.cells (madeCells #[.int .i64 0] l.length) 2)).drew W0.heap.size (List.replicate l.length 0) from lbox_made W0 l.length rfl)
 clear hW0
 try simp only at hN0 hN1 hS0' hS1' hT0' hT1' HARG HEND HOK
 obtain ⟨N,rfl⟩:∃ N:Nat,nn=(N:Int):=⟨nn.toNat,by omega⟩
 obtain ⟨s,rfl⟩:∃ s:Nat,ns=(s:Int):=⟨ns.toNat,by omega⟩
 obtain ⟨t,rfl⟩:∃ t:Nat,nt=(t:Int):=⟨nt.toNat,by omega⟩
 have hS0:=(show (fun w':World=>w'.cell? ⟨w.heap.size,0,none⟩=some (.int .i64 (N:Int))∧w'.cell? ⟨w.heap.size,1,none⟩=some (.int .i64 (s:Int))∧w'.cell? ⟨w.heap.size,2,none⟩=some (.int .i64 (t:Int))∧w'.cell? ⟨w.heap.size,3,none⟩=some (.slice ao l.length cap)) W0.drew from ⟨n0,n1,n2,n3⟩)
 have hS1:=(show (fun w':World=>w'.cell? ⟨w.heap.size,0,none⟩=some (.int .i64 (N:Int))∧w'.cell? ⟨w.heap.size,1,none⟩=some (.int .i64 (s:Int))∧w'.cell? ⟨w.heap.size,2,none⟩=some (.int .i64 (t:Int))∧w'.cell? ⟨w.heap.size,3,none⟩=some (.slice ao l.length cap)) (W0.alloc (.cells (madeCells #[.int .i64 0] l.length) 2)).drew from ⟨held_new n0,held_new n1,held_new n2,held_new n3⟩)
 refine Rh.start (S:=(fun w':World=>w'.cell? ⟨w.heap.size,0,none⟩=some (.int .i64 (N:Int))∧w'.cell? ⟨w.heap.size,1,none⟩=some (.int .i64 (s:Int))∧w'.cell? ⟨w.heap.size,2,none⟩=some (.int .i64 (t:Int))∧w'.cell? ⟨w.heap.size,3,none⟩=some (.slice ao l.length cap))) (by kernel_rfl) ?_
 refine Rh.tp 11 0 hS0 ?_
 refine Rh.tp 12 1 hS0 ?_
 refine Rh.tp 13 2 hS0 ?_
 refine Rh.tp 14 3 hS0 ?_
 refine Rh.step (i:=4) (by kernel_rfl) rfl fun K' hK'=>?_
 have HK:=hid hK'
 clear hK'
 go_simp
 refine HK.out _ _ ⟨hS1,?_⟩
 clear HK K'
 try simp only [Act.put,Rh.q1,Rh.q2,Rh.q3]
 refine Rh.step (i:=5) (by kernel_rfl) rfl fun K' hK'=>?_
 have HK:=hid hK'
 clear hK'
 go_simp
 refine (CK.out _ W0.heap.size (HR.out.kept HBZ.out) HLB.out).mono ?_
 rintro e w3 ⟨rfl,hb⟩
 have HB3:=hid (HBZ.out.trans (hb.mono HBZ.out.size))
 have HN3:=hid (netBox_below HNZ.out hb (netBox_lt HNZ.out))
 have hS2:=(show (fun w':World=>w'.cell? ⟨w.heap.size,0,none⟩=some (.int .i64 (N:Int))∧w'.cell? ⟨w.heap.size,1,none⟩=some (.int .i64 (s:Int))∧w'.cell? ⟨w.heap.size,2,none⟩=some (.int .i64 (t:Int))∧w'.cell? ⟨w.heap.size,3,none⟩=some (.slice ao l.length cap)) w3 from netBox_cells HN3.out)
 clear hb
 refine HK.out _ _ ⟨hS2,?_⟩
 clear HK K'
 try simp only [Act.put,Rh.q1,Rh.q2,Rh.q3]
 refine Rh.tp 6 6 hS2 ?_
 refine Rh.done (by kernel_rfl) ?_ _
 clear n0 n1 n2 n3 HBZ HNZ HLB HNB HB0 hS0 hS1 hS2 CK
 have HMK:=hid (mkbox_new w3 rfl)
 have HB4:=hid (HB3.out.alloc HB3.out.size (.map #[] 0))
 have HN4:=hid (netBox_alloc HN3.out (.map #[] 0))
 have HBM:=hid (show w.heap.size<w3.heap.size from netBox_lt HN3.out)
 go_wp2
 clear hmm
 generalize hW4:w3.alloc (.map #[] 0)=W4 at *
 obtain ⟨B,hB⟩:∃ B,B=w3.heap.size:=⟨_,rfl⟩
 rw [← hB] at HMK HBM ⊢
 clear hB hW4
 have HTK:=hid (fun j (hj:j<S.length) v=>hasL_take hj v)
 go_loopw [8,23] (fun y i wr=>∃ j:Nat,i=.int .i64 j∧y=.int .i64 (lastOf S j)∧j≤S.length∧Rises (N:Int) (S.take j)∧Hid (MkBox wr B j (fun x=>hasL (S.take j) (x:Int)))∧Hid (Below w.heap.size w wr)∧Hid (NetBox wr w.heap.size (N:Int) (s:Int) (t:Int) (.slice ao l.length cap))) (fun _ i _=>S.length-(intOf i).toNat)
 case atStart=>exact ⟨0,rfl,by rw [lastOf_zero],Nat.zero_le _,rises_zero _ _,hid (HMK.out.same fun v _=>by simp [hasL]),HB4,HN4⟩
 case round =>
  obtain ⟨j,rfl,rfl,hj,hris,HMW,HBW,HNW⟩:=hrel
  obtain ⟨n0,n1,n2,n3⟩:=netBox_cells HNW.out
  by_cases hlt:j<S.length
  ·obtain ⟨b9,off,rfl,hb9,d0⟩:=irow_cell (HS.out.kept HBW.out) hlt
   have hp:=rises_pos hris (by omega)
   have hjl:=rises_len hris (by omega)
   have htop:=rises_top hris (by omega) (by omega)
   have HST:=hid (rises_step hlt hris)
   have HLS:=hid (lastOf_succ S j)
   have HTJ:=hid (HTK.out j hlt)
   have HNR:=hid (fun h=>HARG.out (rises_not (j:=j+1) h))
   generalize amt S j=x at *
   generalize lastOf S j=la at *
   have hji:(j:Int)<(S.length:Int):=by omega
   have hj0:(0:Int)≤(j:Int):=by omega
   by_cases h1:la<x
   case neg =>
    have HE:=hid (HNR.out (fun h=>h1 (HST.out.1 h).1))
    have HM:=hid (HBAD.out wr (by rw [HE.out];decide))
    have h1':decide (x≤la)=true:=by simpa using h1
    clear h1 HST HTK HNR HEND HOK
    go_wp2
    go_ret2
    exact ⟨.map none,ret2w HE.out.symm,HM.out,HBW.out⟩
   have h1':decide (x≤la)=false:=by simpa using h1
   by_cases h2:x≤(N:Int)
   case neg =>
    have HE:=hid (HNR.out (fun h=>h2 (HST.out.1 h).2))
    have HM:=hid (HBAD.out wr (by rw [HE.out];decide))
    have h2':decide ((N:Int)<x)=true:=by simpa using h2
    clear h1 h2 HST HTK HNR HEND HOK
    go_wp2
    go_ret2
    exact ⟨.map none,ret2w HE.out.symm,HM.out,HBW.out⟩
   have h2':decide ((N:Int)<x)=false:=by simpa using h2
   have HRN:=hid (HST.out.2 ⟨h1,h2⟩)
   obtain ⟨u,rfl⟩:∃ u:Nat,x=(u:Int):=⟨x.toNat,by omega⟩
   have h3':decide (N<u)=false:=by simpa using h2
   have HPU:=hid (put_any wr B j _ u HMW.out (by omega) (by omega))
   clear h1 h2 HST HTK HNR HEND HOK
   go_wp2_with fail
   refine HPU.out.mono ?_
   rintro e w5 ⟨rfl,hm,hg⟩
   have HM5:=hid (hm.same (T:=fun x=>hasL (S.take (j+1)) (x:Int)) fun v _=>by
    rw [HTJ.out]
    congr 1
    by_cases e:v=u
    ·rw [e,beq_self_eq_true,beq_self_eq_true]
    ·rw [beq_false_of_ne e,beq_false_of_ne (by omega)])
   have HB5:=hid (HBW.out.grown hg HBW.out.size (fun b h=>by cases h;exact Nat.le_of_lt HBM.out))
   have HN5:=hid (netBox_grown HNW.out hg (fun h=>by cases h;exact absurd HBM.out (by omega)))
   clear hm hg n0 n1 n2 n3 d0
   go_wp2
   go_roundw
   case rel=>exact ⟨j+1,by go_num,by rw [HLS.out],by omega,HRN.out,HM5,HB5,HN5⟩
   case measure=>simp [intOf];omega
  ·have hRS:=rises_end hris (by omega)
   have HMS:=hid (show MkBox wr B j (fun x=>hasL S (x:Int)) from HMW.out.same fun v _=>by rw [List.take_of_length_le (by omega)])
   have HHS:=hid (has_any wr B j (fun x=>hasL S (x:Int)) s HMS.out (by omega))
   have HHT:=hid (fun w' h=>has_any w' B j (fun x=>hasL S (x:Int)) t h (by omega))
   have H9:=hid (HEND.out hRS)
   have H0:=hid (HOK.out hRS)
   clear HTK HARG HEND HOK HMW hris hRS
   cases hs:hasL S (s:Int)
   ·rw [hs] at HHS
    have HE:=hid (H9.out (.inl hs))
    have HM:=hid (fun w'=>HBAD.out w' (by rw [HE.out];decide))
    clear hs H0 H9
    go_wp2_with fail
    refine HHS.out.mono ?_
    rintro e w5 ⟨rfl,hb⟩
    have HB5:=hid (HBW.out.trans (hb.mono HBW.out.size))
    clear hb
    go_wp2
    go_ret2
    exact ⟨.map none,ret2w HE.out.symm,HM.out _,HB5.out⟩
   ·rw [hs] at HHS
    go_wp2_with fail
    refine HHS.out.mono ?_
    rintro e w5 ⟨rfl,hb⟩
    have HB5:=hid (HBW.out.trans (hb.mono HBW.out.size))
    have HN5:=hid (netBox_below HNW.out hb (netBox_lt HNW.out))
    have HM5:=hid (HMS.out.below hb)
    clear hb n0 n1 n2 n3
    obtain ⟨n0,n1,n2,n3⟩:=netBox_cells HN5.out
    have HHT5:=hid (HHT.out _ HM5.out)
    cases ht:hasL S (t:Int)
    ·rw [ht] at HHT5
     have HE:=hid (H0.out hs ht)
     clear hs ht H0 H9
     go_wp2_with fail
     refine HHT5.out.mono ?_
     rintro e w6 ⟨rfl,hb⟩
     have HB6:=hid (HB5.out.trans (hb.mono HB5.out.size))
     have HM6:=hid (HM5.out.below hb)
     clear hb
     go_wp2
     go_ret2
     exact ⟨.map (some B),ret2w HE.out.symm,HGOOD.out _ B j HE.out (Nat.le_of_lt HBM.out) HM6.out,HB6.out⟩
    ·rw [ht] at HHT5
     have HE:=hid (H9.out (.inr ht))
     have HM:=hid (fun w'=>HBAD.out w' (by rw [HE.out];decide))
     clear hs ht H0 H9
     go_wp2_with fail
     refine HHT5.out.mono ?_
     rintro e w6 ⟨rfl,hb⟩
     have HB6:=hid (HB5.out.trans (hb.mono HB5.out.size))
     clear hb
     go_wp2
     go_ret2
     exact ⟨.map none,ret2w HE.out.symm,HM.out _,HB6.out⟩
end Ne
end Go.Proofs.YthhlfphnokdfaaaGreat
