/-
  Svz, Log
-/
import Derived.Test.YthhlfphnokdfaaaGreatBf22
import Derived.Test.YthhlfphnokdfaaaGreatRows
import Derived.WalkKit
import Derived.ProofKit
import Derived.OpenShut
import Derived.BigQuiet
import Derived.Deep.QuietTactic
import Derived.Lib.Hide
import Derived.Lib.Mul64
import Derived.Lib.BitFns
import Derived.Lib.Strings
import Derived.Lib.Slices
import Derived.Lib.Small
import Derived.Lib.Walk
import Derived.Laws.Bits64b
import Derived.Lib.ItoaNum
import Derived.Deep.Light
set_option linter.unusedVariables false
set_option linter.unusedSimpArgs false
set_option maxRecDepth 100000
set_option maxHeartbeats 4000000
namespace Go.Proofs.YthhlfphnokdfaaaGreat
open Go.ChangeShapes Go.WideShapes Go.ChangeAt Go.RowKit
open Lib (hid)
namespace Sv
def QLe (V:Nat→Int) (p b1 b2:Nat) (m:Int) (l:List Nat) (I:Nat→List Nat) (v:Nat) (wa:World):Prop :=
 Bx wa b1 (.pointer (some ⟨p,0,none⟩))∧Bx wa b2 (.int .i64 m)∧(∃ t u,l=t ++ I v ++ u∧∀ y∈t,m<V y)∧IsMin V (I v) m
def DLe (V:Nat→Int) (m:Int) (l:List Nat) (v:Nat):Prop:=∃ t u,l=t ++ v :: u∧(∀ y∈t,m<V y)∧V v=m
section
variable {w w2 w0:World} {B p g n c:Nat} {V:Nat→Int} {r:Nat→List Nat} {M:Nat→Nd} {I:Nat→List Nat} {P:Nat→Bool} {D:Nat→Int}
theorem min_part {A B:List Nat} {v:Nat} {m a:Int} (h:IsMin V (A ++ v :: B) m) (hA:A=[]∨(IsMin V A a∧a≠m)):(∀ y∈A,m<V y)∧(V v≠m→B≠[]∧IsMin V B m):=by
 obtain ⟨⟨z,hz,hm⟩,hle⟩:=h
 have h1:∀ y∈A,m<V y:=by
  rcases hA with e | ⟨⟨⟨x,hx,e⟩,g⟩,hne⟩
  ·rw [e];simp
  ·intro y hy
   have:=g y hy
   have:=hle x (by simp [hx])
   omega
 refine ⟨h1,fun hv=>?_⟩
 have hzB:z∈B:=by
  rcases List.mem_append.1 hz with c | c
  ·have:=h1 z c;omega
  ·rcases List.mem_cons.1 c with c | c
   ·subst c;exact absurd hm hv
   ·exact c
 exact ⟨fun e=>by rw [e] at hzB;simp at hzB,⟨z,hzB,hm⟩,fun y hy=>hle y (by simp [hy])⟩
theorem qle_right {l t u A B:List Nat} {v:Nat} {m:Int} (hl:l=t ++ (A ++ v :: B) ++ u) (ht:∀ y∈t,m<V y) (hA:∀ y∈A,m<V y) (hv:m<V v):∃ t' u',l=t' ++ B ++ u'∧∀ y∈t',m<V y :=
 ⟨t ++ A ++ [v],u,by rw [hl];simp,fun y hy=>by
  simp only [List.mem_append,List.mem_singleton] at hy
  rcases hy with (c | c) | c
  ·exact ht y c
  ·exact hA y c
  ·rw [c];exact hv⟩
theorem Bx.drew {b:Nat} {v:Value} (h:Bx w b v):Bx w.drew b v:=h
theorem quiet_guide {F:Nat→Prop} {cc:Nat} {m:Int} {top v b1 b2:Nat} {res:Option Nat} (h:SpM w B p g n M cc) (h1:res=none→DLe V m (r top) v) (h2:∀ y,res=some y→Kid M v y∧QLe V p b1 b2 m (r top) I y w) :
  (SpM w B p g n M cc∧Sp.Off F w w∧(res=none→DLe V m (r top) v)∧∀ y,res=some y→Kid M v y∧QLe V p b1 b2 m (r top) I y w)∧(SpM w.drew B p g n M cc∧Sp.Off F w w.drew∧(res=none→DLe V m (r top) v)∧∀ y,res=some y→Kid M v y∧QLe V p b1 b2 m (r top) I y w.drew)∧(SpM w.drew.drew B p g n M cc∧Sp.Off F w w.drew.drew∧(res=none→DLe V m (r top) v)∧∀ y,res=some y→Kid M v y∧QLe V p b1 b2 m (r top) I y w.drew.drew) :=
 ⟨⟨h,Sp.Off.refl _ _,h1,h2⟩,⟨h.drew,off_drew w,h1,h2⟩,⟨h.drew.drew,(off_drew w).trans (off_drew _) fun _ h=>.inl h,h1,h2⟩⟩
theorem guide_least {top b1 b2:Nat} {m:Int} (hb1:b1≠p∧b1≠g) (hb2:b2≠p∧b2≠g) :
  Guide (PG p g) B p g n V r I top 133 (.pointer (some ⟨b1,0,none⟩)) (.pointer (some ⟨b2,0,none⟩)) (QLe V p b1 b2 m (r top) I) (fun v=>DLe V m (r top) v):=by
 refine ⟨fun k hk=>hk,fun v wa wb hq ho=>⟨hq.1.off ho (by rintro (e | e);exact hb1.1 e;exact hb1.2 e),hq.2.1.off ho (by rintro (e | e);exact hb2.1 e;exact hb2.2 e),hq.2.2⟩,?_⟩
 intro v wa M P D cc h hI hc hv hr hq
 obtain ⟨q1,q2,⟨t,u,ht,htm⟩,hmin⟩:=hq
 have hsp':I v=IL I ((M v).b false) ++ v :: IL I ((M v).b true):=by
  have:=hI.spl_clear hv hc false
  simpa [ord] using this
 have hval:(M v).v=V v:=hI.v_at hv hc.2.1
 have hmv:m≤V v:=hmin.2 v (hI.self hv)
 have hlo:∀ y,(M v).b false=some y→y<n∧IsMin V (I y) (M y).lo:=fun y e=>by
  have g1:=(hI.ch v _ y hv e).1
  exact ⟨g1,hI.lo_at g1 id (clear_child hI hv hc e).2⟩
 have n0:=h.head
 have c1:=q1.1
 have c2:=q2.1
 have hvi:(v:Int)<(n:Int):=by omega
 have hv0:(0:Int)≤(v:Int):=by omega
 have d0:=h.cells hv 0 _ rfl
 have c5:=h.cells hv 5 _ rfl
 have c6:=h.cells hv 6 _ rfl
 simp only [Nat.add_zero] at d0
 rw [hval] at d0
 rw [hsp'] at ht hmin
 generalize hvv:V v=vv at *
 rcases hb:(M v).b false with _ | y
 ·have hp:=min_part (V:=V) (a:=0) hmin (.inl (by rw [hb];rfl))
  by_cases hvm:vv=m
  ·as_aux_lemma =>
   have HA:=hid (quiet_guide (F:=PG p g) (V:=V) (r:=r) (I:=I) (m:=m) (top:=top) (v:=v) (b1:=b1) (b2:=b2) (res:=none) h (fun _=>⟨t ++ IL I ((M v).b false),IL I ((M v).b true) ++ u,by rw [ht];simp,fun y hy=>by
    rcases List.mem_append.1 hy with e | e
    ·exact htm y e
    ·exact hp.1 y e,by rw [hvv];exact hvm⟩) (fun y e=>by cases e))
   obtain ⟨z6,hz6⟩:∃ z,z=oi ((M v).b true):=⟨_,rfl⟩
   rw [← hz6] at c6
   rw [hvm] at d0
   rw [hb] at c5
   have HA1:=hid (⟨HA.out.1.1,HA.out.1.2.1,fun _=>HA.out.1.2.2.1 rfl,fun y e=>by cases e⟩:SpM wa B p g n M cc∧Sp.Off (PG p g) wa wa∧((none:Option Nat)=none→DLe V m (r top) v)∧∀ y,(none:Option Nat)=some y→Kid M v y∧QLe V p b1 b2 m (r top) I y wa)
   have HA2:=hid HA.out.2.1
   have HA3:=hid HA.out.2.2
   simp only [oi] at c5
   clear h hI hc q1 q2 ht hsp' hval hmin hlo hr htm hvv hmv hz6 hvm HA1 hb hp
   go_enter Tryz.func133,Tryz.ntmps133
   go_wp2
   refine Rh.start (S:=(fun w':World=>True)) (by kernel_rfl) ?_
   refine Rh.tp 25 0 trivial ?_
   refine Rh.tp 26 1 trivial ?_
   refine Rh.tp 27 2 trivial ?_
   refine Rh.tu 28 3 trivial ?_
   refine Rh.tu 29 4 trivial ?_
   refine Rh.tu 30 5 trivial ?_
   refine Rh.tu 31 6 trivial ?_
   refine Rh.tu 32 7 trivial ?_
   refine Rh.tu 33 8 trivial ?_
   refine Rh.tu 34 9 trivial ?_
   refine Rh.tu 35 10 trivial ?_
   refine Rh.tu 36 11 trivial ?_
   refine Rh.tu 37 12 trivial ?_
   refine Rh.tp 38 13 trivial ?_
   refine Rh.tp 24 14 trivial ?_
   refine Rh.done (by kernel_rfl) ?_ _
   go_wp2
   have hS5:=(show (fun w':World=>w'.cell? ⟨b1,0,none⟩=some (.pointer (some ⟨p,0,none⟩))∧w'.cell? ⟨p,0,none⟩=some (.slice (some ⟨g,0,none⟩) n n)∧w'.cell? ⟨g,v*9,none⟩=some (.int .i64 m)∧w'.cell? ⟨b2,0,none⟩=some (.int .i64 m)) wa.drew.drew from ⟨c1,n0,d0,c2⟩)
   refine Rh.start (S:=(fun w':World=>w'.cell? ⟨b1,0,none⟩=some (.pointer (some ⟨p,0,none⟩))∧w'.cell? ⟨p,0,none⟩=some (.slice (some ⟨g,0,none⟩) n n)∧w'.cell? ⟨g,v*9,none⟩=some (.int .i64 m)∧w'.cell? ⟨b2,0,none⟩=some (.int .i64 m))) (by kernel_rfl) ?_
   refine Rh.tp 41 0 hS5 ?_
   refine Rh.tp 42 1 hS5 ?_
   refine Rh.tp 43 2 hS5 ?_
   refine Rh.tp 44 3 hS5 ?_
   refine Rh.tp 45 4 hS5 ?_
   refine Rh.tp 46 5 hS5 ?_
   refine Rh.tp 47 6 hS5 ?_
   refine Rh.tp 48 7 hS5 ?_
   refine Rh.tp 49 8 hS5 ?_
   refine Rh.tp 50 9 hS5 ?_
   refine Rh.tp 40 10 hS5 ?_
   refine Rh.done (by kernel_rfl) ?_ _
   go_wp2
   go_ret
   exact ⟨none,rfl,HA.out.2.2.1,HA.out.2.2.2.1,fun _=>HA.out.2.2.2.2.1 trivial,fun y e=>by cases e⟩
  ·as_aux_lemma =>
   rw [hb] at c5
   have hB:=hp.2 (by rw [hvv];exact hvm)
   obtain ⟨yr,hyr⟩:∃ yr,(M v).b true=some yr:=by
    cases e:(M v).b true with
    | none=>rw [e] at hB;exact absurd rfl hB.1
    | some yr=>exact ⟨yr,rfl⟩
   rw [hyr] at hB c6 ht
   have HA:=hid (quiet_guide (F:=PG p g) (V:=V) (r:=r) (I:=I) (m:=m) (top:=top) (v:=v) (b1:=b1) (b2:=b2) (res:=some yr) h (fun e=>by cases e) (fun y e=>by
    cases e
    exact ⟨⟨_,hyr⟩,q1,q2,qle_right ht htm hp.1 (by rw [hvv];omega),hB.2⟩))
   simp only [oi] at c5 c6
   clear h hI hc q1 q2 ht hsp' hval hmin hlo hr htm hB hyr hvv hmv hb hp
   go_enter Tryz.func133,Tryz.ntmps133
   go_wp2
   refine Rh.start (S:=(fun w':World=>True)) (by kernel_rfl) ?_
   refine Rh.tp 25 0 trivial ?_
   refine Rh.tp 26 1 trivial ?_
   refine Rh.tp 27 2 trivial ?_
   refine Rh.tu 28 3 trivial ?_
   refine Rh.tu 29 4 trivial ?_
   refine Rh.tu 30 5 trivial ?_
   refine Rh.tu 31 6 trivial ?_
   refine Rh.tu 32 7 trivial ?_
   refine Rh.tu 33 8 trivial ?_
   refine Rh.tu 34 9 trivial ?_
   refine Rh.tu 35 10 trivial ?_
   refine Rh.tu 36 11 trivial ?_
   refine Rh.tu 37 12 trivial ?_
   refine Rh.tp 38 13 trivial ?_
   refine Rh.tp 24 14 trivial ?_
   refine Rh.done (by kernel_rfl) ?_ _
   go_wp2
   have hS5:=(show (fun w':World=>w'.cell? ⟨b1,0,none⟩=some (.pointer (some ⟨p,0,none⟩))∧w'.cell? ⟨p,0,none⟩=some (.slice (some ⟨g,0,none⟩) n n)∧w'.cell? ⟨g,v*9,none⟩=some (.int .i64 vv)∧w'.cell? ⟨b2,0,none⟩=some (.int .i64 m)) wa.drew.drew from ⟨c1,n0,d0,c2⟩)
   refine Rh.start (S:=(fun w':World=>w'.cell? ⟨b1,0,none⟩=some (.pointer (some ⟨p,0,none⟩))∧w'.cell? ⟨p,0,none⟩=some (.slice (some ⟨g,0,none⟩) n n)∧w'.cell? ⟨g,v*9,none⟩=some (.int .i64 vv)∧w'.cell? ⟨b2,0,none⟩=some (.int .i64 m))) (by kernel_rfl) ?_
   refine Rh.tp 41 0 hS5 ?_
   refine Rh.tp 42 1 hS5 ?_
   refine Rh.tp 43 2 hS5 ?_
   refine Rh.tp 44 3 hS5 ?_
   refine Rh.tp 45 4 hS5 ?_
   refine Rh.tp 46 5 hS5 ?_
   refine Rh.tp 47 6 hS5 ?_
   refine Rh.tp 48 7 hS5 ?_
   refine Rh.tp 49 8 hS5 ?_
   refine Rh.tp 50 9 hS5 ?_
   refine Rh.tp 40 10 hS5 ?_
   refine Rh.done (by kernel_rfl) ?_ _
   go_wp2
   go_ret
   exact ⟨some yr,rfl,HA.out.2.2⟩
 ·obtain ⟨hyn,hym⟩:=hlo y hb
  have e1:=h.cells hyn 1 _ rfl
  have hyi:(y:Int)<(n:Int):=by omega
  have hy0:(0:Int)≤(y:Int):=by omega
  have hyneg:¬ (y:Int) = -1:=by omega
  by_cases hl:(M y).lo=m
  ·as_aux_lemma =>
   rw [hl] at e1
   have HA:=hid (quiet_guide (F:=PG p g) (V:=V) (r:=r) (I:=I) (m:=m) (top:=top) (v:=v) (b1:=b1) (b2:=b2) (res:=some y) h (fun e=>by cases e) (fun y' e=>by
    cases e
    refine ⟨⟨_,hb⟩,q1,q2,⟨t,v :: IL I ((M v).b true) ++ u,by rw [ht,hb];simp [IL],htm⟩,?_⟩
    rw [← hl];exact hym))
   rw [hb] at c5
   simp only [oi] at c5
   clear h hI hc q1 q2 ht hsp' hval hmin hlo hr htm hvv hmv hb hym hl c6
   go_enter Tryz.func133,Tryz.ntmps133
   go_wp2
   have hS0:=(show (fun w':World=>w'.cell? ⟨b1,0,none⟩=some (.pointer (some ⟨p,0,none⟩))∧w'.cell? ⟨p,0,none⟩=some (.slice (some ⟨g,0,none⟩) n n)∧w'.cell? ⟨g,y*9+1,none⟩=some (.int .i64 m)∧w'.cell? ⟨b2,0,none⟩=some (.int .i64 m)) wa.drew from ⟨c1,n0,e1,c2⟩)
   refine Rh.start (S:=(fun w':World=>w'.cell? ⟨b1,0,none⟩=some (.pointer (some ⟨p,0,none⟩))∧w'.cell? ⟨p,0,none⟩=some (.slice (some ⟨g,0,none⟩) n n)∧w'.cell? ⟨g,y*9+1,none⟩=some (.int .i64 m)∧w'.cell? ⟨b2,0,none⟩=some (.int .i64 m))) (by kernel_rfl) ?_
   refine Rh.tp 25 0 hS0 ?_
   refine Rh.tp 26 1 hS0 ?_
   refine Rh.tp 27 2 hS0 ?_
   refine Rh.tp 28 3 hS0 ?_
   refine Rh.tp 29 4 hS0 ?_
   refine Rh.tp 30 5 hS0 ?_
   refine Rh.tp 31 6 hS0 ?_
   refine Rh.tp 32 7 hS0 ?_
   refine Rh.tp 33 8 hS0 ?_
   refine Rh.tp 34 9 hS0 ?_
   refine Rh.tp 35 10 hS0 ?_
   refine Rh.tp 36 11 hS0 ?_
   refine Rh.tp 37 12 hS0 ?_
   refine Rh.tp 38 13 hS0 ?_
   refine Rh.tp 24 14 hS0 ?_
   refine Rh.done (by kernel_rfl) ?_ _
   go_wp2
   go_ret
   exact ⟨some y,rfl,HA.out.2.1⟩
  ·have hp:=min_part (V:=V) (a:=(M y).lo) hmin (.inr ⟨by rw [hb];exact hym,hl⟩)
   generalize (M y).lo=ylo at *
   have hl2:(ylo == m)=false:=by simpa using hl
   have hl3:decide (ylo=m)=false:=by simpa using hl
   by_cases hvm:vv=m
   ·as_aux_lemma =>
    have HA:=hid (quiet_guide (F:=PG p g) (V:=V) (r:=r) (I:=I) (m:=m) (top:=top) (v:=v) (b1:=b1) (b2:=b2) (res:=none) h (fun _=>⟨t ++ IL I ((M v).b false),IL I ((M v).b true) ++ u,by rw [ht];simp,fun y hy=>by
     rcases List.mem_append.1 hy with e | e
     ·exact htm y e
     ·exact hp.1 y e,by rw [hvv];exact hvm⟩) (fun y e=>by cases e))
    obtain ⟨z6,hz6⟩:∃ z,z=oi ((M v).b true):=⟨_,rfl⟩
    rw [← hz6] at c6
    rw [hvm] at d0
    rw [hb] at c5
    have HA1:=hid (⟨HA.out.1.1,HA.out.1.2.1,fun _=>HA.out.1.2.2.1 rfl,fun y e=>by cases e⟩:SpM wa B p g n M cc∧Sp.Off (PG p g) wa wa∧((none:Option Nat)=none→DLe V m (r top) v)∧∀ y,(none:Option Nat)=some y→Kid M v y∧QLe V p b1 b2 m (r top) I y wa)
    have HA2:=hid HA.out.2.1
    have HA3:=hid HA.out.2.2
    simp only [oi] at c5
    clear h hI hc q1 q2 ht hsp' hval hmin hlo hr htm hvv hmv hz6 hvm HA1 hb hp hym
    go_enter Tryz.func133,Tryz.ntmps133
    go_wp2
    have hS0:=(show (fun w':World=>w'.cell? ⟨b1,0,none⟩=some (.pointer (some ⟨p,0,none⟩))∧w'.cell? ⟨p,0,none⟩=some (.slice (some ⟨g,0,none⟩) n n)∧w'.cell? ⟨g,y*9+1,none⟩=some (.int .i64 ylo)∧w'.cell? ⟨b2,0,none⟩=some (.int .i64 m)) wa.drew from ⟨c1,n0,e1,c2⟩)
    refine Rh.start (S:=(fun w':World=>w'.cell? ⟨b1,0,none⟩=some (.pointer (some ⟨p,0,none⟩))∧w'.cell? ⟨p,0,none⟩=some (.slice (some ⟨g,0,none⟩) n n)∧w'.cell? ⟨g,y*9+1,none⟩=some (.int .i64 ylo)∧w'.cell? ⟨b2,0,none⟩=some (.int .i64 m))) (by kernel_rfl) ?_
    refine Rh.tp 25 0 hS0 ?_
    refine Rh.tp 26 1 hS0 ?_
    refine Rh.tp 27 2 hS0 ?_
    refine Rh.tp 28 3 hS0 ?_
    refine Rh.tp 29 4 hS0 ?_
    refine Rh.tp 30 5 hS0 ?_
    refine Rh.tp 31 6 hS0 ?_
    refine Rh.tp 32 7 hS0 ?_
    refine Rh.tp 33 8 hS0 ?_
    refine Rh.tp 34 9 hS0 ?_
    refine Rh.tp 35 10 hS0 ?_
    refine Rh.tp 36 11 hS0 ?_
    refine Rh.tp 37 12 hS0 ?_
    refine Rh.tp 38 13 hS0 ?_
    refine Rh.tp 24 14 hS0 ?_
    refine Rh.done (by kernel_rfl) ?_ _
    go_wp2
    have hS5:=(show (fun w':World=>w'.cell? ⟨b1,0,none⟩=some (.pointer (some ⟨p,0,none⟩))∧w'.cell? ⟨p,0,none⟩=some (.slice (some ⟨g,0,none⟩) n n)∧w'.cell? ⟨g,v*9,none⟩=some (.int .i64 m)∧w'.cell? ⟨b2,0,none⟩=some (.int .i64 m)) wa.drew.drew from ⟨c1,n0,d0,c2⟩)
    refine Rh.start (S:=(fun w':World=>w'.cell? ⟨b1,0,none⟩=some (.pointer (some ⟨p,0,none⟩))∧w'.cell? ⟨p,0,none⟩=some (.slice (some ⟨g,0,none⟩) n n)∧w'.cell? ⟨g,v*9,none⟩=some (.int .i64 m)∧w'.cell? ⟨b2,0,none⟩=some (.int .i64 m))) (by kernel_rfl) ?_
    refine Rh.tp 41 0 hS5 ?_
    refine Rh.tp 42 1 hS5 ?_
    refine Rh.tp 43 2 hS5 ?_
    refine Rh.tp 44 3 hS5 ?_
    refine Rh.tp 45 4 hS5 ?_
    refine Rh.tp 46 5 hS5 ?_
    refine Rh.tp 47 6 hS5 ?_
    refine Rh.tp 48 7 hS5 ?_
    refine Rh.tp 49 8 hS5 ?_
    refine Rh.tp 50 9 hS5 ?_
    refine Rh.tp 40 10 hS5 ?_
    refine Rh.done (by kernel_rfl) ?_ _
    go_wp2
    go_ret
    exact ⟨none,rfl,HA.out.2.2.1,HA.out.2.2.2.1,fun _=>HA.out.2.2.2.2.1 trivial,fun y e=>by cases e⟩
   ·as_aux_lemma =>
    rw [hb] at c5
    have hB:=hp.2 (by rw [hvv];exact hvm)
    obtain ⟨yr,hyr⟩:∃ yr,(M v).b true=some yr:=by
     cases e:(M v).b true with
     | none=>rw [e] at hB;exact absurd rfl hB.1
     | some yr=>exact ⟨yr,rfl⟩
    rw [hyr] at hB c6 ht
    have HA:=hid (quiet_guide (F:=PG p g) (V:=V) (r:=r) (I:=I) (m:=m) (top:=top) (v:=v) (b1:=b1) (b2:=b2) (res:=some yr) h (fun e=>by cases e) (fun y e=>by
     cases e
     exact ⟨⟨_,hyr⟩,q1,q2,qle_right ht htm hp.1 (by rw [hvv];omega),hB.2⟩))
    simp only [oi] at c5 c6
    clear h hI hc q1 q2 ht hsp' hval hmin hlo hr htm hB hyr hvv hmv hb hp hym
    go_enter Tryz.func133,Tryz.ntmps133
    go_wp2
    have hS0:=(show (fun w':World=>w'.cell? ⟨b1,0,none⟩=some (.pointer (some ⟨p,0,none⟩))∧w'.cell? ⟨p,0,none⟩=some (.slice (some ⟨g,0,none⟩) n n)∧w'.cell? ⟨g,y*9+1,none⟩=some (.int .i64 ylo)∧w'.cell? ⟨b2,0,none⟩=some (.int .i64 m)) wa.drew from ⟨c1,n0,e1,c2⟩)
    refine Rh.start (S:=(fun w':World=>w'.cell? ⟨b1,0,none⟩=some (.pointer (some ⟨p,0,none⟩))∧w'.cell? ⟨p,0,none⟩=some (.slice (some ⟨g,0,none⟩) n n)∧w'.cell? ⟨g,y*9+1,none⟩=some (.int .i64 ylo)∧w'.cell? ⟨b2,0,none⟩=some (.int .i64 m))) (by kernel_rfl) ?_
    refine Rh.tp 25 0 hS0 ?_
    refine Rh.tp 26 1 hS0 ?_
    refine Rh.tp 27 2 hS0 ?_
    refine Rh.tp 28 3 hS0 ?_
    refine Rh.tp 29 4 hS0 ?_
    refine Rh.tp 30 5 hS0 ?_
    refine Rh.tp 31 6 hS0 ?_
    refine Rh.tp 32 7 hS0 ?_
    refine Rh.tp 33 8 hS0 ?_
    refine Rh.tp 34 9 hS0 ?_
    refine Rh.tp 35 10 hS0 ?_
    refine Rh.tp 36 11 hS0 ?_
    refine Rh.tp 37 12 hS0 ?_
    refine Rh.tp 38 13 hS0 ?_
    refine Rh.tp 24 14 hS0 ?_
    refine Rh.done (by kernel_rfl) ?_ _
    go_wp2
    have hS5:=(show (fun w':World=>w'.cell? ⟨b1,0,none⟩=some (.pointer (some ⟨p,0,none⟩))∧w'.cell? ⟨p,0,none⟩=some (.slice (some ⟨g,0,none⟩) n n)∧w'.cell? ⟨g,v*9,none⟩=some (.int .i64 vv)∧w'.cell? ⟨b2,0,none⟩=some (.int .i64 m)) wa.drew.drew from ⟨c1,n0,d0,c2⟩)
    refine Rh.start (S:=(fun w':World=>w'.cell? ⟨b1,0,none⟩=some (.pointer (some ⟨p,0,none⟩))∧w'.cell? ⟨p,0,none⟩=some (.slice (some ⟨g,0,none⟩) n n)∧w'.cell? ⟨g,v*9,none⟩=some (.int .i64 vv)∧w'.cell? ⟨b2,0,none⟩=some (.int .i64 m))) (by kernel_rfl) ?_
    refine Rh.tp 41 0 hS5 ?_
    refine Rh.tp 42 1 hS5 ?_
    refine Rh.tp 43 2 hS5 ?_
    refine Rh.tp 44 3 hS5 ?_
    refine Rh.tp 45 4 hS5 ?_
    refine Rh.tp 46 5 hS5 ?_
    refine Rh.tp 47 6 hS5 ?_
    refine Rh.tp 48 7 hS5 ?_
    refine Rh.tp 49 8 hS5 ?_
    refine Rh.tp 50 9 hS5 ?_
    refine Rh.tp 40 10 hS5 ?_
    refine Rh.done (by kernel_rfl) ?_ _
    go_wp2
    go_ret
    exact ⟨some yr,rfl,HA.out.2.2⟩
end
end Sv
namespace Num
def lenF (n:Nat):Nat:=Lib.bitLen n
theorem lenF_bounds (n:Nat) (h:n<18446744073709551616) (h0:n≠0):1≤lenF n∧2 ^ (lenF n-1)≤n∧n<2 ^ lenF n :=
 Lib.bitLenAux_bounds 64 n h h0
theorem lenF_le (n k:Nat) (hk:k≤64) (h:n<2 ^ k):lenF n≤k:=Lib.bitLen_le n k hk h

def logF (n:Int):Int:=if n<2 then 0 else (lenF (n-1).toNat:Int)
theorem pc (k:Nat):(((2:Nat) ^ k:Nat):Int)=(2:Int) ^ k:=Int.natCast_pow 2 k
theorem logF_spec (n:Int) (h0:2≤n) (h1:n≤9223372036854775807):∃ k:Nat,logF n=k∧1≤k∧k≤63∧n≤2 ^ k∧2 ^ (k-1)<n:=by
 refine ⟨lenF (n-1).toNat,by unfold logF;rw [if_neg (by omega)],?_⟩
 obtain ⟨b1,b2,b3⟩:=lenF_bounds (n-1).toNat (by omega) (by omega)
 have b4:=lenF_le (n-1).toNat 63 (by omega) (by omega)
 generalize lenF (n-1).toNat=L at *
 have e1:=pc L
 have e2:=pc (L-1)
 generalize (2:Nat) ^ L=p1 at *
 generalize (2:Nat) ^ (L-1)=p2 at *
 refine ⟨b1,b4,by omega,by omega⟩
end Num
end Go.Proofs.YthhlfphnokdfaaaGreat
