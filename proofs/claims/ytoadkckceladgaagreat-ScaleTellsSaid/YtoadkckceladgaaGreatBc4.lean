/-
  Rbox, Srm, Add, Chk, Famt
-/
import Derived.Test.YtoadkckceladgaaGreatBc3
import Derived.Test.YtoadkckceladgaaGreatBc2
import Derived.Test.YtoadkckceladgaaGreatBc1
import Derived.Laws.CopyOwn
import Derived.Test.YtoadkckceladgaaGreatRows
import Derived.WalkKit
import Derived.ProofKit
import Derived.OpenShut
import Derived.BigQuiet
import Derived.Deep.QuietTactic
import Derived.Lib.Hide
import Derived.Lib.Mul64
import Derived.Lib.BitFns
import Derived.Lib.Strings
import Derived.Lib.Slices
import Derived.Lib.Small
import Derived.Lib.Walk
import Derived.Laws.Bits64b
set_option linter.unusedVariables false
set_option linter.unusedSimpArgs false
set_option maxRecDepth 100000
set_option maxHeartbeats 4000000
namespace Go.Proofs.YtoadkckceladgaaGreat
open Go.ChangeShapes Go.WideShapes Go.ChangeAt Go.RowKit
open Lib (hid)
namespace Ne
theorem infoR:(Tryz.prog.info? 53).map (fun i=>(i.zero,i.size,i.bytes))=some (some (.slice none 0 0),1,24):=by kernel_rfl
theorem make_r (n:Nat) (h:n≤1000000) (w:World):(Instr.makeSlice 112 (.int .i64 (n:Int)) (.int .i64 (n:Int))).run Tryz.prog w=.ok (.slice (some ⟨w.heap.size,0,none⟩) n n) (w.alloc (.cells (madeCells #[.slice none 0 0] n) 53)) :=
 run_make_row' 112 53 (.slice none 0 0) 24 Tryz.underlying112 infoR rfl .i64 .i64 n (by omega) (by omega) w
structure GBox (w:World) (lb n:Nat) (VS:Nat→Value) (U:Nat→List Nat):Prop where
 row:w.rowIs lb 53 n VS
 own:∀ v,v<n→OwnI w (lb+1) (VS v) (encW (U v))
 sep:∀ v v',v<n→v' < n→v≠v'→∀ g,(VS v).ownBlock=some g→(VS v').ownBlock≠some g
section
variable {w w2:World} {lb n:Nat} {VS:Nat→Value} {U:Nat→List Nat}
theorem gbox_made (w:World) (n:Nat) {b:Nat} (hb:b=w.heap.size):GBox (w.alloc (.cells (madeCells #[.slice none 0 0] n) 53)) b n (fun _=>.slice none 0 0) (fun _=>[]):=by
 subst hb
 exact ⟨World.rowIs_made w (.slice none 0 0) n 53,fun v _=>Rw.owN _ _,fun v v' _ _ _ g h=>by simp [Value.ownBlock] at h⟩
theorem GBox.below (h:GBox w lb n VS U) (hb:Below w.heap.size w w2):GBox w2 lb n VS U :=
 ⟨World.rowIs.of_block h.row (hb.block lb (World.rowIs.lt h.row)),fun v hv=>Rw.own_below (h.own v hv) hb,h.sep⟩
theorem GBox.alloc (h:GBox w lb n VS U) (o:Obj):GBox (w.alloc o) lb n VS U:=h.below ((Below.refl _ _).alloc (Nat.le_refl _) o)
theorem GBox.lt (h:GBox w lb n VS U):lb<w.heap.size:=World.rowIs.lt h.row
theorem GBox.cell (h:GBox w lb n VS U) {v:Nat} (hv:v<n):w.cell? ⟨lb,v,none⟩=some (VS v):=World.rowIs.cell h.row hv
theorem GBox.put (h:GBox w lb n VS U) {v:Nat} (hv:v<n) {x:Value} {u:List Nat} (hg:w.grownBy w2 (VS v).ownBlock) (ho:OwnI w2 (lb+1) x (encW u)) (hx:x.ownBlock=(VS v).ownBlock∨x.ownBlock=some w.heap.size) :
  GBox (w2.setCell ⟨lb,v,none⟩ x) lb n (fun j=>if j=v then x else VS j) (fun j=>if j=v then u else U j):=by
 have hne:some lb≠(VS v).ownBlock:=fun e=>by have:=(Rw.owL (h.own v hv) lb e.symm).1;omega
 have hrow:=World.rowIs.of_block h.row (hg.block lb h.lt hne)
 refine ⟨World.rowIs.set hrow v x,fun j hj=>?_,fun j j' hj hj' hd g hb=>?_⟩
 ·by_cases e:j=v
  ·subst e
   simp only [if_true]
   exact Rw.own_set ho (p:=⟨lb,j,none⟩) (fun e=>by have:=(Rw.owL ho lb e).1;omega) x
  ·simp only [if_neg e]
   have h1:=Rw.own_grown (h.own j hj) hg fun g hb e2=>h.sep v j hv hj (Ne.symm e) g e2.symm hb
   exact Rw.own_set h1 (p:=⟨lb,v,none⟩) (fun e=>by have:=(Rw.owL h1 lb e).1;omega) x
 ·by_cases e:j=v
  ·subst e
   simp only [if_true] at hb
   simp only [if_neg (Ne.symm hd)]
   intro hb2
   rcases hx with hx | hx
   ·rw [hx] at hb;exact h.sep j j' hj hj' hd g hb hb2
   ·rw [hx] at hb
    have:=(Rw.owL (h.own j' hj') g hb2).2
    simp at hb;omega
  ·simp only [if_neg e] at hb
   by_cases e':j' = v
   ·subst e'
    simp only [if_true]
    intro hb2
    rcases hx with hx | hx
    ·rw [hx] at hb2;exact h.sep j j' hj hj' hd g hb hb2
    ·rw [hx] at hb2
     have:=(Rw.owL (h.own j hj) g hb).2
     simp at hb2;omega
   ·simp only [if_neg e'];exact h.sep j j' hj hj' hd g hb
end
structure RBox (w:World) (lb lo hi n:Nat) (VS:Nat→Value) (U:Nat→List Nat):Prop where
 row:w.rowIs lb 53 n VS
 each:∀ v,v<n→RowOf w lo hi (VS v) (U v)
 out:lb<lo
 sz:hi≤w.heap.size
section
variable {w w2:World} {lb lo hi n:Nat} {VS:Nat→Value} {U:Nat→List Nat}
theorem RBox.of_g (h:GBox w lb n VS U):RBox w lb (lb+1) w.heap.size n VS U:=⟨h.row,fun v hv=>.of_own (h.own v hv),by omega,Nat.le_refl _⟩
theorem RBox.keep (h:RBox w lb lo hi n VS U) (hs:w.heap.size≤w2.heap.size) (hk:∀ b,b=lb∨(lo≤b∧b<hi)→w2.heap[b]? = w.heap[b]?):RBox w2 lb lo hi n VS U :=
 ⟨World.rowIs.of_block h.row (hk lb (.inl rfl)),fun v hv=>(h.each v hv).keep fun b h1 h2=>hk b (.inr ⟨h1,h2⟩),h.out,Nat.le_trans h.sz hs⟩
theorem RBox.lt (h:RBox w lb lo hi n VS U):lb<w.heap.size:=World.rowIs.lt h.row
theorem RBox.below (h:RBox w lb lo hi n VS U) (hb:Below w.heap.size w w2):RBox w2 lb lo hi n VS U :=
 h.keep hb.size fun b hb2=>hb.block b (by have:=h.lt;have:=h.sz;omega)
theorem RBox.alloc (h:RBox w lb lo hi n VS U) (o:Obj):RBox (w.alloc o) lb lo hi n VS U:=h.below ((Below.refl _ _).alloc (Nat.le_refl _) o)
theorem RBox.far (h:RBox w lb lo hi n VS U) {p:Addr} (h1:p.block≠lb) (h2:p.block<lo∨hi≤p.block) (v:Value):RBox (w.setCell p v) lb lo hi n VS U :=
 h.keep (by simp [World.setCell]) fun b hb=>Below.heap_setCell _ _ _ _ (by omega)
theorem RBox.grown (h:RBox w lb lo hi n VS U) {row:Option Nat} (hg:w.grownBy w2 row) (hr:∀ g,row=some g→g≠lb∧(g<lo∨hi≤g)):RBox w2 lb lo hi n VS U :=
 h.keep hg.size fun b hb=>hg.block b (by have:=h.lt;have:=h.sz;omega) (fun e=>by have:=hr b e.symm;omega)
theorem RBox.cell (h:RBox w lb lo hi n VS U) {v:Nat} (hv:v<n):w.cell? ⟨lb,v,none⟩=some (VS v):=World.rowIs.cell h.row hv
theorem RBox.frozen (h:RBox w lb lo hi n VS U) (i:Nat):w.frozen? ⟨lb,i,none⟩=false:=World.rowIs.frozen h.row i
theorem RBox.put (h:RBox w lb lo hi n VS U) {v:Nat} (hv:v<n) {x:Value} {u:List Nat} (hx:RowOf w lo hi x u) :
  RBox (w.setCell ⟨lb,v,none⟩ x) lb lo hi n (fun j=>if j=v then x else VS j) (fun j=>if j=v then u else U j):=by
 have hk:∀ b,lo≤b→b<hi→(w.setCell ⟨lb,v,none⟩ x).heap[b]? = w.heap[b]?:=fun b h1 h2=>Below.heap_setCell _ _ _ _ (by have:=h.out;show b≠lb;omega)
 refine ⟨World.rowIs.set h.row v x,fun j hj=>?_,h.out,by have:=h.sz;simpa [World.setCell] using this⟩
 by_cases e:j=v
 ·subst e;simp only [if_true];exact hx.keep hk
 ·simp only [if_neg e];exact (h.each j hj).keep hk
end
structure Dfs (n:Net) (f:List Int) (x:Int) (M:List Bool) (way:List Nat) (U:Nat→List Nat):Prop where
 len:M.length=n.n.toNat+1
 src:M.getD n.s.toNat false=true
 sound:∀ i:Nat,M.getD i false=true→Rch n f x (i:Int)
 wayM:∀ v∈way,M.getD v false=true
 cls:∀ r,r<2*n.l.length→x≤roomN n.l f r→M.getD (trF n.l r).toNat false=true→M.getD (trT n.l r).toNat false=true∨((trF n.l r).toNat∈way∧r∈U (trF n.l r).toNat)
 sub:∀ v,v<n.n.toNat+1→∀ r∈U v,r<2*n.l.length∧trF n.l r=(v:Int)
 full:∀ v,v<n.n.toNat+1→M.getD v false=false→U v=fromL n.l (v:Int) (2*n.l.length)
 few:way.length+unmet M≤n.n.toNat+1
theorem dfs_start {n:Net} (hR:Right n) (f:List Int) (x:Int):Dfs n f x ((List.replicate (n.n.toNat+1) false).set n.s.toNat true) [n.s.toNat] (fun v=>fromL n.l (v:Int) (2*n.l.length)):=by
 have h0:=hR.s0
 have h1:=hR.s1
 have hs:n.s.toNat<(List.replicate (n.n.toNat+1) false).length:=by simp;omega
 have hg:=fun j=>getD_set _ n.s.toNat j hs
 have hu:=unmet_set hs (replB _ _)
 refine ⟨by simp,by rw [hg,if_pos rfl],fun i hi=>?_,fun v hv=>?_,fun r hr hx hm=>?_,fun v hv r hr=>fromL_mem.1 hr,fun v hv _=>rfl,?_⟩
 ·rw [hg] at hi
  by_cases e:i=n.s.toNat
  ·have:(i:Int)=n.s:=by omega
   rw [this];exact .base
  ·rw [if_neg e,replB] at hi;cases hi
 ·simp at hv;subst hv;rw [hg,if_pos rfl]
 ·rw [hg] at hm
  by_cases e:(trF n.l r).toNat=n.s.toNat
  ·refine .inr ⟨by simp [e],fromL_mem.2 ⟨hr,?_⟩⟩
   have:=tFb hR hr;omega
  ·rw [if_neg e,replB] at hm;cases hm
 ·rw [unmet_repl] at hu;simp only [List.length_singleton];omega
theorem dfs_push {n:Net} (hR:Right n) {f:List Int} {x:Int} {M:List Bool} {W0:List Nat} {u:Nat} {U:Nat→List Nat} (h:Dfs n f x M (W0 ++ [u]) U) (hu:u<n.n.toNat+1) {i r:Nat} (hi:i<(U u).length) (hr:(U u).getD i 0=r)
  (hpre:∀ j,j<i→x≤roomN n.l f ((U u).getD j 0)→M.getD (trT n.l ((U u).getD j 0)).toNat false=true) (hx:x≤roomN n.l f r) (hm:M.getD (trT n.l r).toNat false=false) :
  Dfs n f x (M.set (trT n.l r).toNat true) (W0 ++ [u] ++ [(trT n.l r).toNat]) (fun j=>if j=u then (U u).drop (i+1) else U j)∧unmet (M.set (trT n.l r).toNat true)+1=unmet M:=by
 have hru:r∈U u:=by rw [← hr];exact gDm hi
 obtain ⟨hr2,hrf⟩:=h.sub u hu r hru
 have hb:=tTb hR hr2
 have ht:(trT n.l r).toNat<M.length:=by rw [h.len];omega
 have hg:=fun j=>getD_set M (trT n.l r).toNat j ht
 have hun:=unmet_set ht hm
 have hMu:=h.wayM u (by simp)
 have hne:u≠(trT n.l r).toNat:=fun e=>by rw [← e,hMu] at hm;cases hm
 have hup:∀ j,M.getD j false=true→(M.set (trT n.l r).toNat true).getD j false=true:=fun j hj=>by rw [hg];split <;> simp_all
 refine ⟨⟨by simp [h.len],hup _ h.src,fun j hj=>?_,fun v hv=>?_,fun q hq hxq hmq=>?_,fun v hv q hq=>?_,fun v hv hmv=>?_,?_⟩,hun⟩
 ·rw [hg] at hj
  by_cases e:j=(trT n.l r).toNat
  ·have:(j:Int)=trT n.l r:=by omega
   rw [this]
   refine .step hr2 hx ?_
   rw [hrf];exact h.sound u hMu
  ·rw [if_neg e] at hj;exact h.sound j hj
 ·rcases List.mem_append.1 hv with h1 | h1
  ·exact hup v (h.wayM v h1)
  ·simp at h1;subst h1;rw [hg,if_pos rfl]
 ·rw [hg] at hmq
  by_cases e:(trF n.l q).toNat=(trT n.l r).toNat
  ·-- newly met
   refine .inr ⟨by simp [e],?_⟩
   try simp only
   rw [if_neg (by rw [e];exact Ne.symm hne),h.full _ (by have:=tFb hR hq;omega) (by rw [e];exact hm)]
   refine fromL_mem.2 ⟨hq,?_⟩
   have:=tFb hR hq;omega
  ·rw [if_neg e] at hmq
   rcases h.cls q hq hxq hmq with h1 | ⟨h1,h2⟩
   ·exact .inl (hup _ h1)
   ·by_cases e2:(trF n.l q).toNat=u
    ·rw [e2] at h2
     obtain ⟨j,hj,hjq⟩:=List.mem_iff_getElem.1 h2
     have hjd:(U u).getD j 0=q:=by rw [List.getD_eq_getElem?_getD,List.getElem?_eq_getElem hj,hjq];rfl
     rcases Nat.lt_trichotomy j i with h3 | h3 | h3
     ·exact .inl (hup _ (by have:=hpre j h3;rw [hjd] at this;exact this hxq))
     ·subst h3
      rw [hjd] at hr;subst hr
      exact .inl (by rw [hg,if_pos rfl])
     ·refine .inr ⟨by rw [e2];simp,?_⟩
      try simp only
      rw [if_pos e2]
      refine List.mem_iff_getElem.2 ⟨j-(i+1),by rw [List.length_drop];omega,?_⟩
      rw [List.getElem_drop,← hjq]
      congr 1;omega
    ·refine .inr ⟨List.mem_append_left _ h1,?_⟩
     try simp only
     rw [if_neg e2];exact h2
 ·try simp only at hq
  by_cases e:v=u
  ·subst e;rw [if_pos rfl] at hq;exact h.sub v hv q (List.mem_of_mem_drop hq)
  ·rw [if_neg e] at hq;exact h.sub v hv q hq
 ·rw [hg] at hmv
  by_cases e:v=(trT n.l r).toNat
  ·rw [if_pos e] at hmv;cases hmv
  ·rw [if_neg e] at hmv
   have:v≠u:=fun e=>by rw [e,hMu] at hmv;cases hmv
   try simp only
   rw [if_neg this];exact h.full v hv hmv
 ·have:=h.few
  simp only [List.length_append,List.length_singleton] at this ⊢
  omega
theorem dfs_pop {n:Net} (hR:Right n) {f:List Int} {x:Int} {M:List Bool} {W0:List Nat} {u:Nat} {U:Nat→List Nat} (h:Dfs n f x M (W0 ++ [u]) U)
  (hpre:∀ j,j<(U u).length→x≤roomN n.l f ((U u).getD j 0)→M.getD (trT n.l ((U u).getD j 0)).toNat false=true):Dfs n f x M W0 U:=by
 refine ⟨h.len,h.src,h.sound,fun v hv=>h.wayM v (List.mem_append_left _ hv),fun q hq hxq hmq=>?_,h.sub,h.full,?_⟩
 ·rcases h.cls q hq hxq hmq with h1 | ⟨h1,h2⟩
  ·exact .inl h1
  ·rcases List.mem_append.1 h1 with h3 | h3
   ·exact .inr ⟨h3,h2⟩
   ·simp at h3
    rw [h3] at h2
    obtain ⟨j,hj,hjq⟩:=List.mem_iff_getElem.1 h2
    have hjd:(U u).getD j 0=q:=by rw [List.getD_eq_getElem?_getD,List.getElem?_eq_getElem hj,hjq];rfl
    have:=hpre j hj
    rw [hjd] at this
    exact .inl (this hxq)
 ·have:=h.few
  simp only [List.length_append,List.length_singleton] at this
  omega
theorem dfs_end {n:Net} {f:List Int} {x:Int} {M:List Bool} {U:Nat→List Nat} (h:Dfs n f x M [] U):IsReach n f x M :=
 ⟨h.len,h.src,h.sound,fun r hr hx hm=>by
  rcases h.cls r hr hx hm with h1 | ⟨h1,_⟩
  ·exact h1
  ·simp at h1⟩
end Ne
namespace Ne
section
variable {w w2:World} {b:Nat} {l:List Int}
end
def repL (m c:Nat) (a:Int):List Int:=List.replicate c a ++ List.replicate (m-c) 0
theorem repL_len {m c:Nat} (a:Int) (h:c≤m):(repL m c a).length=m:=by simp [repL];omega
theorem repL_at {m c j:Nat} (a:Int) (h:j<c):(repL m c a)[j]? = some a:=by simp [repL,h,List.getElem?_append]
theorem repL_put {m c k:Nat} (a:Int) (h:c+k≤m):splice ((repL m c a).map (Value.int .i64)) c ((List.replicate k a).map (Value.int .i64))=(repL m (c+k) a).map (Value.int .i64):=by
 unfold splice repL
 simp only [List.map_append,List.map_replicate,List.length_replicate]
 rw [List.take_left' (by simp),show List.drop (c+k) (List.replicate c (Value.int .i64 a) ++ List.replicate (m-c) (Value.int .i64 0))=List.replicate (m-(c+k)) (Value.int .i64 0) by
  rw [List.drop_append];simp;omega,← List.append_assoc,List.replicate_append_replicate]
theorem repL_zero (m:Nat) (a:Int):repL m 0 a=List.replicate m 0:=by simp [repL]
theorem repL_all (m:Nat) (a:Int):repL m m a=List.replicate m a:=by simp [repL]
theorem repL_set {m c:Nat} (a:Int) (h:c<m):(repL m c a).set c a=repL m (c+1) a:=by
 obtain ⟨k,hk⟩:∃ k,m-c=k+1:=⟨m-c-1,by omega⟩
 unfold repL
 rw [hk,show m-(c+1)=k by omega,List.replicate_succ (n:=k),List.set_append_right _ _ (by simp)]
 simp [List.replicate_succ']
def SBox (w:World) (b:Nat) (v:Value):Prop:=w.rowIs b 53 1 fun _=>v
section
variable {w w2:World} {b:Nat} {v:Value}
theorem SBox.cell (h:SBox w b v):w.cell? ⟨b,0,none⟩=some v:=World.rowIs.cell h (by omega)
theorem SBox.frozen (h:SBox w b v) (i:Nat):w.frozen? ⟨b,i,none⟩=false:=World.rowIs.frozen h i
theorem SBox.lt (h:SBox w b v):b<w.heap.size:=World.rowIs.lt h
theorem SBox.same (h:SBox w b v) (e:w2.heap[b]? = w.heap[b]?):SBox w2 b v:=World.rowIs.of_block h e
theorem SBox.kept (h:SBox w b v) (hb:Below w.heap.size w w2):SBox w2 b v:=h.same (hb.block b h.lt)
theorem SBox.far (h:SBox w b v) {p:Addr} (hp:b≠p.block) (x:Value):SBox (w.setCell p x) b v:=World.rowIs.setOther h hp x
theorem SBox.alloc (h:SBox w b v) (o:Obj):SBox (w.alloc o) b v:=World.rowIs.alloc h o
theorem SBox.set (h:SBox w b v) (x:Value):SBox (w.setCell ⟨b,0,none⟩ x) b x:=World.rowIs.congr (World.rowIs.set h 0 x) fun i hi=>by
 show (if i=0 then _ else _)=_
 rw [if_pos (by omega)]
theorem sbox_new (w:World) {b:Nat} (hb:b=w.heap.size) (v:Value):SBox (w.alloc (.cells #[v] 53)) b v:=by
 subst hb
 refine ⟨#[v],?_,rfl,fun i hi=>?_⟩
 ·show (w.heap.push _)[w.heap.size]? = _;simp
 ·obtain rfl:i=0:=by omega
  rfl
end
end Ne
namespace Ne
structure Okf (n:Net) (f:List Int):Prop where
 len:f.length=n.l.length
 wi:wi n.l f
 calm:calm n f
theorem Okf.chk {n:Net} {f:List Int} (h:Okf n f) (ck:checkN n=0):chkF n f=0:=chkF_in (chkA_in ck h.len h.wi) h.calm
theorem okf_of {n:Net} {f:List Int} (h:chkF n f=0):checkN n=0∧Okf n f:=by
 obtain ⟨h1,h2⟩:=chkF_ok h
 obtain ⟨g1,_,g2,g3⟩:=chkA_ok h1
 exact ⟨g1,g2,g3,h2⟩
theorem Flow.okf {n:Net} {f:List Int} (h:Flow n f):Okf n f:=⟨h.len,h.wi,fun v _ hs ht=>h.calm _ hs ht⟩
theorem okf_push {n:Net} (hR:Right n) {f g:List Int} (hF:Okf n f) {x:Int} (hx:0≤x) {W:List Int} (hW:isWalk n W=true) (hp:pushN n.l f x W=some g):Okf n g∧exc n.l g n.t=exc n.l f n.t+x:=by
 obtain ⟨h1,h2,h3⟩:=push_facts hR hF.len hF.wi hx (W:=W) (k:=W.length) (Nat.le_refl _) (u:=n.t) (g:=g) (by rw [List.take_length];exact isWalk_at hW) (by rw [List.take_length];exact hp)
 have e1:=h3 n.t
 rw [if_pos rfl,if_neg hR.ne] at e1
 refine ⟨⟨h1,h2,fun v hv hs ht=>?_⟩,by omega⟩
 rw [h3 v,if_neg (Ne.symm ht),if_neg (Ne.symm hs),hF.calm v hv hs ht];simp
def SBlk (w:World) (b:Nat) (n s t:Int) (av rv:Value) (x:Int) (uv:Value):Prop:=w.heap[b]? = some (.cells #[.int .i64 n,.int .i64 s,.int .i64 t,av,rv,.int .i64 x,uv] 152 (0,0))
section
variable {w w2:World} {b:Nat} {n s t x:Int} {av rv uv:Value}
theorem sbC (h:SBlk w b n s t av rv x uv):w.cell? ⟨b,0,none⟩=some (.int .i64 n)∧w.cell? ⟨b,1,none⟩=some (.int .i64 s)∧w.cell? ⟨b,2,none⟩=some (.int .i64 t)∧w.cell? ⟨b,3,none⟩=some av∧w.cell? ⟨b,4,none⟩=some rv∧w.cell? ⟨b,5,none⟩=some (.int .i64 x)∧w.cell? ⟨b,6,none⟩=some uv:=by
 unfold SBlk at h
 simp [World.cell?,h]
theorem sblk_lt (h:SBlk w b n s t av rv x uv):b<w.heap.size:=Rw.lt_of_heap h
theorem sblk_same (h:SBlk w b n s t av rv x uv) (e:w2.heap[b]? = w.heap[b]?):SBlk w2 b n s t av rv x uv:=by unfold SBlk at *;rw [e];exact h
theorem sblk_new (w:World) {b:Nat} (hb:b=w.heap.size) (n s t x:Int) (av rv uv:Value):SBlk (w.alloc (.cells #[.int .i64 n,.int .i64 s,.int .i64 t,av,rv,.int .i64 x,uv] 152)) b n s t av rv x uv:=by
 subst hb
 show (w.heap.push _)[w.heap.size]? = _
 simp
end
structure SrM (n:Net) (ao:Option Addr) (cap:Nat) (x:Int) (w0 w:World) (sb lb lo hi:Nat) (rv:Value) (RM:List Int) (VS:Nat→Value) (U:Nat→List Nat):Prop where
 row0:ARow w0 ao n.l
 old:Below w0.heap.size w0 w
 blk:SBlk w sb n.n n.s n.t (.slice ao n.l.length cap) rv x (.slice (some ⟨lb,0,none⟩) (n.n.toNat+1) (n.n.toNat+1))
 rooms:OwnL w w0.heap.size rv RM
 rows:RBox w lb lo hi (n.n.toNat+1) VS U
 low:w0.heap.size≤lb∧w0.heap.size≤sb
 ne:sb≠lb
 sep:∀ g,rv.ownBlock=some g→g≠lb∧g≠sb∧(g<lo∨hi≤g)
section
variable {n:Net} {ao:Option Addr} {cap:Nat} {x:Int} {w0 w w2:World} {sb lb lo hi:Nat} {rv:Value} {RM:List Int} {VS:Nat→Value} {U:Nat→List Nat}
theorem SrM.row (st:SrM n ao cap x w0 w sb lb lo hi rv RM VS U):ARow w ao n.l:=st.row0.kept st.old
theorem SrM.lt (st:SrM n ao cap x w0 w sb lb lo hi rv RM VS U):sb<w.heap.size∧lb<w.heap.size:=⟨sblk_lt st.blk,st.rows.lt⟩
theorem SrM.kept (st:SrM n ao cap x w0 w sb lb lo hi rv RM VS U) (hb:Below w.heap.size w w2):SrM n ao cap x w0 w2 sb lb lo hi rv RM VS U :=
 ⟨st.row0,st.old.trans (hb.mono st.old.size),sblk_same st.blk (hb.block _ st.lt.1),owM st.rooms fun g hg=>hb.block g (Rw.owL st.rooms g hg).2,st.rows.below hb,st.low,st.ne,st.sep⟩
theorem SrM.alloc (st:SrM n ao cap x w0 w sb lb lo hi rv RM VS U) (o:Obj):SrM n ao cap x w0 (w.alloc o) sb lb lo hi rv RM VS U:=st.kept ((Below.refl _ _).alloc (Nat.le_refl _) o)
theorem SrM.far (st:SrM n ao cap x w0 w sb lb lo hi rv RM VS U) {p:Addr} (h0:w0.heap.size≤p.block) (h1:p.block≠sb) (h2:p.block≠lb) (h3:p.block<lo∨hi≤p.block) (h4:∀ g,rv.ownBlock=some g→g≠p.block) (v:Value):SrM n ao cap x w0 (w.setCell p v) sb lb lo hi rv RM VS U :=
 ⟨st.row0,st.old.setCell h0 v,sblk_same st.blk (Below.heap_setCell _ _ _ _ (Ne.symm h1)),owM st.rooms fun g hg=>Below.heap_setCell _ _ _ _ (h4 g hg),st.rows.far h2 h3 v,st.low,st.ne,st.sep⟩
theorem SrM.grown (st:SrM n ao cap x w0 w sb lb lo hi rv RM VS U) {row:Option Nat} (hg:w.grownBy w2 row) (hr:∀ g,row=some g→w0.heap.size≤g∧g≠sb∧g≠lb∧(g<lo∨hi≤g)∧rv.ownBlock≠some g):SrM n ao cap x w0 w2 sb lb lo hi rv RM VS U :=
 ⟨st.row0,st.old.grown hg st.old.size fun g e=>(hr g e).1,sblk_same st.blk (hg.block _ st.lt.1 fun e=>(hr _ e.symm).2.1 rfl),owM st.rooms fun g hv=>hg.block g (Rw.owL st.rooms g hv).2 fun e=>(hr g e.symm).2.2.2.2 hv,
  st.rows.grown hg fun g e=>⟨(hr g e).2.2.1,(hr g e).2.2.2.1⟩,st.low,st.ne,st.sep⟩
theorem SrM.put (st:SrM n ao cap x w0 w sb lb lo hi rv RM VS U) {v:Nat} (hv:v<n.n.toNat+1) {y:Value} {u:List Nat} (hy:RowOf w lo hi y u) :
  SrM n ao cap x w0 (w.setCell ⟨lb,v,none⟩ y) sb lb lo hi rv RM (fun j=>if j=v then y else VS j) (fun j=>if j=v then u else U j) :=
 ⟨st.row0,st.old.setCell (p:=⟨lb,v,none⟩) st.low.1 y,sblk_same st.blk (Below.heap_setCell _ _ _ _ st.ne),owM st.rooms fun g hg=>Below.heap_setCell _ _ _ _ (st.sep g hg).1,st.rows.put hv hy,st.low,st.ne,st.sep⟩
theorem rowOf_nil (w:World) (lo hi:Nat):RowOf w lo hi (.slice none 0 0) []:=⟨none,0,rfl,by simp,by unfold maxLen;omega,.inl rfl⟩
theorem rowOf_drop {w:World} {lo hi:Nat} {b off m c:Nat} {u:List Nat} (h:RowOf w lo hi (.slice (some ⟨b,off,none⟩) m c) u) {i:Nat} (hi2:i<u.length) :
  RowOf w lo hi (.slice (some ⟨b,off+i,none⟩) (m-i) (c-i)) (u.drop i):=by
 obtain ⟨A',c',h1,h2,h3,h4⟩:=h
 simp only [Value.slice.injEq] at h1
 obtain ⟨rfl,rfl,rfl⟩:=h1
 refine ⟨_,_,by rw [List.length_drop],by rw [List.length_drop];omega,by omega,?_⟩
 rcases h4 with h4 | ⟨b',off',e,h6,h7,h8⟩
 ·rw [h4] at hi2;simp at hi2
 ·cases e
  refine .inr ⟨b,off+i,rfl,h6,h7,fun j hj=>?_⟩
  rw [List.length_drop] at hj
  rw [show off+i+j=off+(i+j) by omega,h8 (i+j) (by omega)]
  simp [List.getD_eq_getElem?_getD,List.getElem?_drop]
theorem rowOf_at {w:World} {lo hi:Nat} {y:Value} {u:List Nat} (h:RowOf w lo hi y u) {i:Nat} (hi2:i<u.length):∃ b off c,y=.slice (some ⟨b,off,none⟩) u.length c∧u.length≤c∧c≤maxLen∧lo≤b∧b<hi∧∀ j,j<u.length→w.cell? ⟨b,off+j,none⟩=some (.int .i64 ((u.getD j 0:Nat):Int)):=by
 obtain ⟨A,c,h1,h2,h3,h4⟩:=h
 rcases h4 with h4 | ⟨b,off,rfl,h6,h7,h8⟩
 ·rw [h4] at hi2;simp at hi2
 ·exact ⟨b,off,c,h1,h2,h3,h6,h7,h8⟩
theorem SrM.less (st:SrM n ao cap x w0 w sb lb lo hi rv RM VS U) {r:Nat} (hr:r<RM.length) (y:Int):∃ g c,rv=.slice (some ⟨g,0,none⟩) RM.length c∧g<w.heap.size∧w0.heap.size≤g∧w.cell? ⟨g,r,none⟩=some (.int .i64 (amt RM r))∧w.frozen? ⟨g,r,none⟩=false ∧
  SrM n ao cap x w0 (w.setCell ⟨g,r,none⟩ (.int .i64 y)) sb lb lo hi rv (RM.set r y) VS U:=by
 obtain ⟨ao',c,hv,_,_,_,_,_,_⟩:=Rw.owR eIl st.rooms
 have hro:=st.rooms
 rw [hv] at hro
 obtain ⟨g,rfl,hg1,hg2,hc,hf⟩:=own_cells eIl hro (at_amt hr)
 have hsep:=st.sep g (by rw [hv];rfl)
 have c0:=hc 0 _ rfl
 rw [show r*1+0=r by omega] at c0
 refine ⟨g,c,hv,hg2,hg1,c0,hf r,st.row0,st.old.setCell (p:=⟨g,r,none⟩) hg1 _,sblk_same st.blk (Below.heap_setCell _ _ _ _ (Ne.symm hsep.2.1)),?_,st.rows.far (p:=⟨g,r,none⟩) hsep.1 hsep.2.2 _,st.low,st.ne,st.sep⟩
 have h:=own_put eIl hro (at_amt hr) (y:=y) (j:=0) (by omega) (u:=.int .i64 y) rfl
 rw [show r*1+0=r by omega] at h
 rw [hv];exact h
theorem SrM.room (st:SrM n ao cap x w0 w sb lb lo hi rv RM VS U) {r:Nat} (hr:r<RM.length):∃ g c,rv=.slice (some ⟨g,0,none⟩) RM.length c∧g<w.heap.size∧w.cell? ⟨g,r,none⟩=some (.int .i64 (amt RM r)):=by
 obtain ⟨g,c,h1,h2,_,h3,_⟩:=st.less hr 0
 exact ⟨g,c,h1,h2,h3⟩
end
def fIx (P:Nat→Bool) (u:List Nat):Int:=if u.findIdx P<u.length then (u.findIdx P:Int) else -1
theorem fIx_hit {P:Nat→Bool} {u:List Nat} {k:Nat} (hk:k<u.length) (h1:∀ j,j<k→P (u.getD j 0)=false) (h2:P (u.getD k 0)=true):fIx P u=(k:Int):=by
 have e:u.findIdx P=k:=by
  refine (List.findIdx_eq hk).2 ⟨?_,fun j hj=>?_⟩
  ·rw [List.getD_eq_getElem?_getD,List.getElem?_eq_getElem hk] at h2;exact h2
  ·have:=h1 j hj
   rw [List.getD_eq_getElem?_getD,List.getElem?_eq_getElem (by omega)] at this
   simpa using this
 unfold fIx
 rw [e,if_pos hk]
theorem fIx_none {P:Nat→Bool} {u:List Nat} (h1:∀ j,j<u.length→P (u.getD j 0)=false):fIx P u = -1:=by
 unfold fIx
 rw [if_neg]
 intro h
 have:=List.findIdx_getElem (w:=h)
 have h2:=h1 _ h
 rw [List.getD_eq_getElem?_getD,List.getElem?_eq_getElem h] at h2
 simp only [Option.getD_some] at h2
 rw [this] at h2;cases h2
theorem fIx_cases (P:Nat→Bool) (u:List Nat):(∃ k:Nat,k<u.length∧fIx P u=(k:Int)∧P (u.getD k 0)=true∧∀ j,j<k→P (u.getD j 0)=false)∨(fIx P u = -1∧∀ j,j<u.length→P (u.getD j 0)=false):=by
 by_cases h:u.findIdx P<u.length
 ·left
  refine ⟨u.findIdx P,h,by unfold fIx;rw [if_pos h],?_,fun j hj=>?_⟩
  ·rw [List.getD_eq_getElem?_getD,List.getElem?_eq_getElem h]
   exact List.findIdx_getElem (w:=h)
  ·rw [List.getD_eq_getElem?_getD,List.getElem?_eq_getElem (by omega)]
   exact Bool.eq_false_iff.2 (by simpa using List.not_of_lt_findIdx hj)
 ·right
  refine ⟨by unfold fIx;rw [if_neg h],fun j hj=>?_⟩
  rw [List.getD_eq_getElem?_getD,List.getElem?_eq_getElem hj]
  exact Bool.eq_false_iff.2 (by simpa using List.not_of_lt_findIdx (show j<u.findIdx P by omega))
end Ne
namespace Num

def inB (a:Int):Bool:=decide (-9223372036854775808≤a∧a≤9223372036854775807)
def valV (x:Int):Int:=if inB x then x else 0
def valE (x:Int):Int:=if inB x then 0 else 3

theorem valV_in {x:Int} (h0:-9223372036854775808≤x) (h1:x≤9223372036854775807):valV x=x:=by
 unfold valV inB;rw [if_pos (decide_eq_true ⟨h0,h1⟩)]
theorem valE_in {x:Int} (h0:-9223372036854775808≤x) (h1:x≤9223372036854775807):valE x=0:=by
 unfold valE inB;rw [if_pos (decide_eq_true ⟨h0,h1⟩)]
theorem valV_out {x:Int} (h:x < -9223372036854775808∨9223372036854775807<x):valV x=0:=by
 unfold valV inB;rw [if_neg (by simp;omega)]
theorem valE_out {x:Int} (h:x < -9223372036854775808∨9223372036854775807<x):valE x=3:=by
 unfold valE inB;rw [if_neg (by simp;omega)]
theorem ret2 {a b c d:Int} (h1:a=c) (h2:b=d):Ending.returned (.tuple #[.int .i64 a,.int .i64 b])=.returned (.tuple #[.int .i64 c,.int .i64 d]):=by rw [h1,h2]

theorem add_any (a b:Int) (w:World) (ha:-9223372036854775808≤a) (ha':a≤9223372036854775807) (hb:-9223372036854775808≤b) (hb':b≤9223372036854775807) :
  Calls Tryz.prog 63 #[.int .i64 a,.int .i64 b] w fun e w'=>e=.returned (.tuple #[.int .i64 (valV (a+b)),.int .i64 (valE (a+b))])∧w=w':=by
 by_cases hi:-9223372036854775808≤a+b∧a+b≤9223372036854775807
 ·obtain ⟨h0,h1⟩:=hi
  by_cases c:b<0
  ·have c2:a+b<a:=by omega
   go_enter Tryz.func63,Tryz.ntmps63
   go_wp2
   go_ret2
   exact ⟨ret2 (valV_in h0 h1).symm (valE_in h0 h1).symm,rfl⟩
  ·have c2:¬ a+b<a:=by omega
   go_enter Tryz.func63,Tryz.ntmps63
   go_wp2
   go_ret2
   exact ⟨ret2 (valV_in h0 h1).symm (valE_in h0 h1).symm,rfl⟩
 ·have ho:a+b < -9223372036854775808∨9223372036854775807<a+b:=by omega
  have hw:(decide (wrap64 (a+b)<a) == decide (b<0))=false:=by unfold wrap64;simp;omega
  have e1:=valV_out ho
  have e2:=valE_out ho
  have E1:=hid e1
  have E2:=hid e2
  clear e1 e2 hi
  go_enter Tryz.func63,Tryz.ntmps63
  go_wp2
  go_ret2
  exact ⟨ret2 E1.out.symm E2.out.symm,rfl⟩

end Num
namespace Ne
theorem isnode_any (n s t v:Int) (L:Value) (w:World) :
  Calls Tryz.prog 55 #[.agg #[.int .i64 n,.int .i64 s,.int .i64 t,L],.int .i64 v] w fun e w'=>e=.returned (.bool (isNode n v))∧w.alloc (.cells #[.int .i64 n,.int .i64 s,.int .i64 t,L] 24)=w':=by
 by_cases h1:1≤v
 ·by_cases h2:v≤n
  ·have HE:=hid (show isNode n v=true by simp [isNode,h1,h2])
   go_enter Tryz.func55,Tryz.ntmps55
   go_wp2
   go_ret
   exact ⟨retB HE.out.symm,rfl⟩
  ·have HE:=hid (show isNode n v=false by simp [isNode,h1,h2])
   go_enter Tryz.func55,Tryz.ntmps55
   go_wp2
   go_ret
   exact ⟨retB HE.out.symm,rfl⟩
 ·have HE:=hid (show isNode n v=false by simp [isNode,h1])
  go_enter Tryz.func55,Tryz.ntmps55
  go_wp2
  go_ret
  exact ⟨retB HE.out.symm,rfl⟩

theorem checkarcs_any (n:Net) (ao:Option Addr) (cap:Nat) (w:World) (hr:ARow w ao n.l) (hl:n.l.length≤1000000) (hok:∀ a∈n.l,in64 a.cap) :
  Calls Tryz.prog 56 #[encN n ao cap] w fun e w'=>e=.returned (.int .i64 (checkL n.n 4611686018427387903 n.l))∧Below w.heap.size w w':=by
 obtain ⟨nn,ns,nt,l⟩:=n
 simp only at hr hl hok ⊢
 have HR:=hid hr
 have HOK:=hid hok
 clear hr hok
 have HB0:=hid ((Below.refl w.heap.size w).alloc (Nat.le_refl _) (.cells #[.int .i64 nn,.int .i64 ns,.int .i64 nt,.slice ao l.length cap] 24))
 have HN0:=hid (nbN w nn ns nt (.slice ao l.length cap))
 go_enter Tryz.func56,Tryz.ntmps56
 go_wp2
 go_loopw [3,11] (fun s i wr=>∃ (k:Nat) (sum:Int),s=.int .i64 sum∧i=.int .i64 k∧k≤l.length∧0≤sum∧sum≤4611686018427387903∧NetBox wr w.heap.size nn ns nt (.slice ao l.length cap)∧Below w.heap.size w wr∧Hid (checkL nn 4611686018427387903 l=checkL nn (4611686018427387903-sum) (l.drop k))) (fun _ i _=>l.length-(intOf i).toNat)
 case atStart=>exact ⟨0,0,rfl,rfl,Nat.zero_le _,by omega,by omega,HN0.out,HB0.out,hid rfl⟩
 case round =>
  obtain ⟨k,sum,rfl,rfl,hk,hs0,hs1,hbx,hbel,HC⟩:=hrel
  obtain ⟨n0,n1,n2,n3⟩:=nbC hbx
  have HBX:=hid hbx
  have HB:=hid hbel
  have hwlt:w.heap.size<wr.heap.size:=netBox_lt hbx
  clear hbx hbel
  by_cases hlt:k<l.length
  ·obtain ⟨a,ha⟩:∃ a,l[k]? = some a:=⟨_,List.getElem?_eq_getElem hlt⟩
   rcases (HR.out.kept HB.out) with h | ⟨b,off,rfl,hbl,hcell⟩
   ·exfalso;rw [h] at hlt;simp at hlt
   obtain ⟨c0,c1,c2⟩:=arow_at hcell ha
   obtain ⟨hc0,hc1⟩:=HOK.out a (List.mem_of_getElem? ha)
   have HD:=hid (drop_at ha)
   obtain ⟨fr,to,ca⟩:=a
   simp only at c0 c1 c2 hc0 hc1
   clear hcell ha
   by_cases f1:isNode nn fr=true
   case neg =>
    have f1':isNode nn fr=false:=by simpa using f1
    have HE:=hid (show checkL nn 4611686018427387903 l=4 by rw [HC.out,HD.out];simp [checkL,f1'])
    clear f1
    go_wp2_with (go_at_call 55;refine (isnode_any _ _ _ _ _ _).mono ?_;rintro e w' ⟨rfl,rfl⟩)
    go_ret
    exact ⟨retI HE.out.symm,(HB.out.alloc (by omega) _).alloc (by simp;omega) _⟩
   by_cases f2:isNode nn to=true
   case neg =>
    have f2':isNode nn to=false:=by simpa using f2
    have HE:=hid (show checkL nn 4611686018427387903 l=4 by rw [HC.out,HD.out];simp [checkL,f2'])
    clear f2
    go_wp2_with (go_at_call 55;refine (isnode_any _ _ _ _ _ _).mono ?_;rintro e w' ⟨rfl,rfl⟩)
    go_ret
    exact ⟨retI HE.out.symm,((HB.out.alloc (by omega) _).alloc (by simp;omega) _).alloc (by simp;omega) _⟩
   have HI:=hid (show (isNode nn fr && isNode nn to)=true by simp [f1,f2])
   by_cases f3:ca<0
   ·have HE:=hid (show checkL nn 4611686018427387903 l=3 by rw [HC.out,HD.out];simp [checkL,f1,f2,f3])
    go_wp2_with (go_at_call 55;refine (isnode_any _ _ _ _ _ _).mono ?_;rintro e w' ⟨rfl,rfl⟩)
    go_ret
    exact ⟨retI HE.out.symm,((HB.out.alloc (by omega) _).alloc (by simp;omega) _).alloc (by simp;omega) _⟩
   have c4:=fun w'=>Num.add_any sum ca w' (by omega) (by omega) (by omega) (by omega)
   by_cases f4:sum+ca≤4611686018427387903
   ·rw [Num.valV_in (by omega) (by omega),Num.valE_in (by omega) (by omega)] at c4
    have C4:=hid c4
    have HE:=hid (show checkL nn 4611686018427387903 l=checkL nn (4611686018427387903-(sum+ca)) (l.drop (k+1)) by
     rw [HC.out,HD.out];simp [checkL,f1,f2,f3];rw [if_neg (by omega),show 4611686018427387903-sum-ca=4611686018427387903-(sum+ca) by omega])
    clear c4
    go_wp2_with (first
     | (go_at_call 55;refine (isnode_any _ _ _ _ _ _).mono ?_;rintro e w' ⟨rfl,rfl⟩)
     | (go_at_call 63;refine (C4.out _).mono ?_;rintro e w' ⟨rfl,rfl⟩))
    go_roundw
    case rel=>exact ⟨k+1,sum+ca,rfl,by go_num,by omega,by omega,by omega,nbA (nbA (nbA HBX.out _) _) _,((HB.out.alloc (by omega) _).alloc (by simp;omega) _).alloc (by simp;omega) _,HE⟩
    case measure=>simp [intOf];omega
   ·have HE:=hid (show checkL nn 4611686018427387903 l=7 by
     rw [HC.out,HD.out];simp [checkL,f1,f2,f3];intro h;omega)
    by_cases f5:sum+ca≤9223372036854775807
    ·rw [Num.valV_in (by omega) f5,Num.valE_in (by omega) f5] at c4
     have C4:=hid c4
     clear c4
     go_wp2_with (first
      | (go_at_call 55;refine (isnode_any _ _ _ _ _ _).mono ?_;rintro e w' ⟨rfl,rfl⟩)
      | (go_at_call 63;refine (C4.out _).mono ?_;rintro e w' ⟨rfl,rfl⟩))
     go_ret
     exact ⟨retI HE.out.symm,((HB.out.alloc (by omega) _).alloc (by simp;omega) _).alloc (by simp;omega) _⟩
    ·rw [Num.valV_out (by omega),Num.valE_out (by omega)] at c4
     have C4:=hid c4
     clear c4
     go_wp2_with (first
      | (go_at_call 55;refine (isnode_any _ _ _ _ _ _).mono ?_;rintro e w' ⟨rfl,rfl⟩)
      | (go_at_call 63;refine (C4.out _).mono ?_;rintro e w' ⟨rfl,rfl⟩))
     go_ret
     exact ⟨retI HE.out.symm,((HB.out.alloc (by omega) _).alloc (by simp;omega) _).alloc (by simp;omega) _⟩
  ·have ek:k=l.length:=by omega
   subst ek
   have HE:=hid (show checkL nn 4611686018427387903 l=0 by rw [HC.out,List.drop_length];rfl)
   go_wp2
   go_ret
   exact ⟨retI HE.out.symm,HB.out⟩

theorem check_any (n:Net) (ao:Option Addr) (cap:Nat) (w:World) (hr:ARow w ao n.l) (hl:n.l.length≤1000000) (hok:∀ a∈n.l,in64 a.cap) :
  Calls Tryz.prog 48 #[encN n ao cap] w fun e w'=>e=.returned (.int .i64 (checkN n))∧Below w.heap.size w w':=by
 obtain ⟨nn,ns,nt,l⟩:=n
 simp only at hr hl hok ⊢
 have HB0:=hid ((Below.refl w.heap.size w).alloc (Nat.le_refl _) (.cells #[.int .i64 nn,.int .i64 ns,.int .i64 nt,.slice ao l.length cap] 24))
 by_cases g1:nn<2
 ·have HE:=hid (show checkN ⟨nn,ns,nt,l⟩=3 by unfold checkN;rw [if_pos (.inl g1)])
  go_enter Tryz.func48,Tryz.ntmps48
  go_wp2
  go_ret
  exact ⟨retI HE.out.symm,HB0.out⟩
 by_cases g2:500<nn
 ·have HE:=hid (show checkN ⟨nn,ns,nt,l⟩=3 by unfold checkN;rw [if_pos (.inr g2)])
  go_enter Tryz.func48,Tryz.ntmps48
  go_wp2
  go_ret
  exact ⟨retI HE.out.symm,HB0.out⟩
 by_cases f1:isNode nn ns=true
 case neg =>
  have f1':isNode nn ns=false:=by simpa using f1
  have HE:=hid (show checkN ⟨nn,ns,nt,l⟩=4 by unfold checkN;rw [if_neg (show ¬ (nn<2∨500<nn) by omega)];simp [f1'])
  clear f1
  go_enter Tryz.func48,Tryz.ntmps48
  go_wp2_with (go_at_call 55;refine (isnode_any _ _ _ _ _ _).mono ?_;rintro e w' ⟨rfl,rfl⟩)
  go_ret
  exact ⟨retI HE.out.symm,HB0.out.alloc (by simp) _⟩
 by_cases f2:isNode nn nt=true
 case neg =>
  have f2':isNode nn nt=false:=by simpa using f2
  have HE:=hid (show checkN ⟨nn,ns,nt,l⟩=4 by unfold checkN;rw [if_neg (show ¬ (nn<2∨500<nn) by omega)];simp [f2'])
  clear f2
  go_enter Tryz.func48,Tryz.ntmps48
  go_wp2_with (go_at_call 55;refine (isnode_any _ _ _ _ _ _).mono ?_;rintro e w' ⟨rfl,rfl⟩)
  go_ret
  exact ⟨retI HE.out.symm,(HB0.out.alloc (by simp) _).alloc (by simp;omega) _⟩
 have HI:=hid (show (isNode nn ns && isNode nn nt)=true by simp [f1,f2])
 by_cases g4:ns=nt
 ·have HE:=hid (show checkN ⟨nn,ns,nt,l⟩=5 by unfold checkN;rw [if_neg (show ¬ (nn<2∨500<nn) by omega),if_pos HI.out,if_pos g4])
  have g4':(ns == nt)=true:=by simp [g4]
  clear g4
  go_enter Tryz.func48,Tryz.ntmps48
  go_wp2_with (go_at_call 55;refine (isnode_any _ _ _ _ _ _).mono ?_;rintro e w' ⟨rfl,rfl⟩)
  go_ret
  exact ⟨retI HE.out.symm,(HB0.out.alloc (by simp) _).alloc (by simp;omega) _⟩
 have g4':(ns == nt)=false:=by simp [g4]
 by_cases g5:2000<l.length
 ·have HE:=hid (show checkN ⟨nn,ns,nt,l⟩=6 by unfold checkN;rw [if_neg (show ¬ (nn<2∨500<nn) by omega),if_pos HI.out,if_neg g4,if_pos g5])
  have g5':(2000:Int)<(l.length:Int):=by omega
  clear g4
  go_enter Tryz.func48,Tryz.ntmps48
  go_wp2_with (go_at_call 55;refine (isnode_any _ _ _ _ _ _).mono ?_;rintro e w' ⟨rfl,rfl⟩)
  go_ret
  exact ⟨retI HE.out.symm,(HB0.out.alloc (by simp) _).alloc (by simp;omega) _⟩
 have HE:=hid (show checkN ⟨nn,ns,nt,l⟩=checkL nn 4611686018427387903 l by unfold checkN;rw [if_neg (show ¬ (nn<2∨500<nn) by omega),if_pos HI.out,if_neg g4,if_neg g5])
 have HC:=hid (fun w' (h:ARow w' ao l)=>checkarcs_any ⟨nn,ns,nt,l⟩ ao cap w' h hl hok)
 have HR:=hid hr
 have g5':¬ (2000:Int)<(l.length:Int):=by omega
 clear g4 hr hok
 go_enter Tryz.func48,Tryz.ntmps48
 go_wp2_with (go_at_call 55;refine (isnode_any _ _ _ _ _ _).mono ?_;rintro e w' ⟨rfl,rfl⟩)
 have HB1:=hid ((HB0.out.alloc (by simp) (.cells #[.int .i64 nn,.int .i64 ns,.int .i64 nt,.slice ao l.length cap] 24)).alloc (by simp;omega) (.cells #[.int .i64 nn,.int .i64 ns,.int .i64 nt,.slice ao l.length cap] 24))
 refine (HC.out _ (HR.out.kept HB1.out)).mono ?_
 rintro e w' ⟨rfl,hb⟩
 have HB2:=hid (HB1.out.trans (hb.mono (by simp;omega)))
 clear hb
 go_wp2
 go_ret
 exact ⟨retI HE.out.symm,HB2.out⟩
end Ne
namespace Ne
theorem wi_bad {l:List Arc} {f:List Int} {k:Nat} (hk:k<l.length) (h:amt f k<0∨(arcAt l k).cap<amt f k):¬ wi l f:=fun hw=>by have:=hw k hk;omega
theorem chkA_cnt {n:Net} {f:List Int} (h1:checkN n=0) (h2:f.length≠n.l.length):chkA n f=6:=by
 unfold chkA;rw [if_neg (by simpa using h1),if_pos h2]
theorem chkA_net {n:Net} {f:List Int} (h1:checkN n≠0):chkA n f=checkN n:=by unfold chkA;rw [if_pos h1]
theorem chkA_rng {n:Net} {f:List Int} (h1:checkN n=0) (h2:f.length=n.l.length) (h3:¬ wi n.l f):chkA n f=3:=by
 unfold chkA;rw [if_neg (by simpa using h1),if_neg (by simpa using h2),if_neg h3]

theorem amts_any (n:Net) (ao:Option Addr) (cap:Nat) (fo:Option Addr) (fc:Nat) (f:List Int) (w:World) (hr:ARow w ao n.l) (hf:IRow w fo f) (hl:n.l.length≤1000000) (hok:∀ a∈n.l,in64 a.cap) :
  Calls Tryz.prog 40 #[encN n ao cap,.slice fo f.length fc] w fun e w'=>e=.returned (.int .i64 (chkA n f))∧Below w.heap.size w w':=by
 have CK:=hid (fun w' (h:ARow w' ao n.l)=>check_any n ao cap w' h hl hok)
 have E1:=hid (fun h=>chkA_net (n:=n) (f:=f) h)
 have E2:=hid (fun h1 h2=>chkA_cnt (n:=n) (f:=f) h1 h2)
 have E3:=hid (fun h1 h2 h3=>chkA_rng (n:=n) (f:=f) h1 h2 h3)
 have E4:=hid (fun h1 h2 h3=>chkA_in (n:=n) (f:=f) h1 h2 h3)
 obtain ⟨R,hR⟩:∃ x,x=chkA n f:=⟨_,rfl⟩
 rw [← hR] at E1 E2 E3 E4 ⊢
 clear hR
 obtain ⟨c,hc⟩:∃ c,checkN n=c:=⟨_,rfl⟩
 rw [hc] at CK E1 E2 E3 E4
 clear hc
 obtain ⟨nn,ns,nt,l⟩:=n
 simp only at hr hl hok CK E1 E2 E3 E4 ⊢
 have HB0:=hid ((Below.refl w.heap.size w).alloc (Nat.le_refl _) (.cells #[.int .i64 nn,.int .i64 ns,.int .i64 nt,.slice ao l.length cap] 24))
 have HN0:=hid (nbN w nn ns nt (.slice ao l.length cap))
 have HR:=hid hr
 have HF:=hid hf
 clear hr hf hok
 by_cases c1:c=0
 case neg =>
  have HE:=hid (E1.out c1)
  have c1':(c == 0)=false:=by simpa using c1
  have c1n:(c != 0)=true:=by simpa using c1
  clear c1
  go_enter Tryz.func40,Tryz.ntmps40
  go_wp2_with fail
  refine (CK.out _ (HR.out.kept HB0.out)).mono ?_
  rintro e w1 ⟨rfl,hb⟩
  have HB1:=hid (HB0.out.trans (hb.mono (by simp)))
  clear hb
  go_wp2
  go_ret
  exact ⟨retI HE.out.symm,HB1.out⟩
 subst c1
 by_cases c2:f.length=l.length
 case neg =>
  have HE:=hid (E2.out (by trivial) c2)
  have c2':((f.length:Int) == (l.length:Int))=false:=by simp;omega
  have c2n:((f.length:Int) != (l.length:Int))=true:=by simp;omega
  clear c2
  go_enter Tryz.func40,Tryz.ntmps40
  go_wp2_with fail
  refine (CK.out _ (HR.out.kept HB0.out)).mono ?_
  rintro e w1 ⟨rfl,hb⟩
  have HB1:=hid (HB0.out.trans (hb.mono (by simp)))
  have HN1:=nbB HN0.out hb (by simp)
  obtain ⟨n0,n1,n2,n3⟩:=nbC HN1
  clear hb HN1
  go_wp2
  go_ret
  exact ⟨retI HE.out.symm,HB1.out⟩
 have HLE:=hid c2
 rw [c2]
 clear c2
 go_enter Tryz.func40,Tryz.ntmps40
 go_wp2_with fail
 refine (CK.out _ (HR.out.kept HB0.out)).mono ?_
 rintro e w1 ⟨rfl,hb⟩
 have HB1:=hid (HB0.out.trans (hb.mono (by simp)))
 have HN1:=nbB HN0.out hb (by simp)
 obtain ⟨n0,n1,n2,n3⟩:=nbC HN1
 clear hb HN1
 go_wp2
 clear n0 n1 n2 n3
 go_loopw [22] (fun i wr=>∃ k:Nat,i=.int .i64 k∧k≤l.length∧Hid (Below w.heap.size w wr)∧Hid (∀ i,i<k→0≤amt f i∧amt f i≤(arcAt l i).cap)) (fun i _=>l.length-(intOf i).toNat)
 case atStart=>exact ⟨0,rfl,Nat.zero_le _,HB1,hid (fun i hi=>absurd hi (by omega))⟩
 case round =>
  obtain ⟨k,rfl,hk,HB,HW⟩:=hrel
  by_cases hlt:k<l.length
  ·obtain ⟨b,off,rfl,hbl,c0,c1,c2⟩:=arC (HR.out.kept HB.out) hlt
   obtain ⟨b2,off2,rfl,hbl2,d0⟩:=irC (HF.out.kept HB.out) (i:=k) (by have:=HLE.out;omega)
   have HBD:=hid (fun h=>wi_bad (l:=l) (f:=f) hlt h)
   have HST:=hid (show ∀ i,i<k+1→(0≤amt f k∧amt f k≤(arcAt l k).cap)→0≤amt f i∧amt f i≤(arcAt l i).cap from fun i hi h=>by
    by_cases e:i=k
    ·subst e;exact h
    ·exact HW.out i (by omega))
   generalize amt f k=x at *
   generalize arcAt l k=a at *
   obtain ⟨fr,to,ca⟩:=a
   simp only at c0 c1 c2 HBD HST
   have hsz:=HB.out.size
   have HB2:=hid (HB.out.alloc hsz (.cells #[.int .i64 fr,.int .i64 to,.int .i64 ca] 51))
   have hki:(k:Int)<(l.length:Int):=by omega
   have hk0:(0:Int)≤(k:Int):=by omega
   obtain ⟨g0,g1,g2⟩:=arc_new wr rfl fr to ca
   have d1:=hdA (o:=.cells #[.int .i64 fr,.int .i64 to,.int .i64 ca] 51) d0
   by_cases p1:x<0
   ·have HE:=hid (E3.out (by trivial) HLE.out (HBD.out (.inl p1)))
    have p1':decide (x<0)=true:=by simpa using p1
    go_wp2
    generalize (wr.alloc (.cells #[.int .i64 fr,.int .i64 to,.int .i64 ca] 51))=W2 at *
    clear d0 c0 c1 c2
    go_quiet (fail)
    go_wp2
    go_ret
    exact ⟨retI HE.out.symm,bDn HB2.out _⟩
   ·have p1':decide (x<0)=false:=by simpa using p1
    by_cases p2:ca<x
    ·have HE:=hid (E3.out (by trivial) HLE.out (HBD.out (.inr p2)))
     have p2':decide (ca<x)=true:=by simpa using p2
     go_wp2
     generalize (wr.alloc (.cells #[.int .i64 fr,.int .i64 to,.int .i64 ca] 51))=W2 at *
     clear d0 c0 c1 c2
     go_quiet (fail)
     go_wp2
     go_ret
     exact ⟨retI HE.out.symm,bDn HB2.out _⟩
    ·have p2':decide (ca<x)=false:=by simpa using p2
     have HST2:=hid (fun i hi=>HST.out i hi (by omega))
     go_wp2
     generalize (wr.alloc (.cells #[.int .i64 fr,.int .i64 to,.int .i64 ca] 51))=W2 at *
     clear d0 c0 c1 c2
     go_quiet (fail)
     go_wp2
     go_roundw
     case rel=>exact ⟨k+1,by go_num,by omega,hid (bDn HB2.out _),HST2⟩
     case measure=>simp [intOf];omega
  ·have ek:k=l.length:=by omega
   subst ek
   have HE:=hid (E4.out (by trivial) HLE.out HW.out)
   go_wp2
   go_ret
   exact ⟨retI HE.out.symm,HB.out⟩
end Ne
end Go.Proofs.YtoadkckceladgaaGreat
