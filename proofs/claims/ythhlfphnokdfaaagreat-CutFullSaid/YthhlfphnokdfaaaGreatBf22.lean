/-
  Svu
-/
import Derived.Test.YthhlfphnokdfaaaGreatBf21
import Derived.Test.YthhlfphnokdfaaaGreatBf19
set_option linter.unusedVariables false
set_option linter.unusedSimpArgs false
set_option maxRecDepth 100000
set_option maxHeartbeats 4000000
namespace Go.Proofs.YthhlfphnokdfaaaGreat
open Go.ChangeShapes Go.WideShapes Go.ChangeAt Go.RowKit
open Lib (hid)
namespace Sv
abbrev No:Nat→Prop:=fun _=>False
section
variable {w w0:World} {B p g n c:Nat} {V:Nat→Int} {r:Nat→List Nat} {M:Nat→Nd} {I:Nat→List Nat} {P:Nat→Bool} {D:Nat→Int}
theorem kids (h:Inv n V r No M I P D) {x:Nat} (hx:x<n):∀ s y,(M x).b s=some y→y<n∧y≠x:=fun s y hy=>by
 refine ⟨(h.ch x s y hx hy).1,?_⟩
 rintro rfl
 have:=h.below hx hy;omega
def Down (w w':World) (B p g n:Nat) (V:Nat→Int) (r:Nat→List Nat) (M:Nat→Nd) (I:Nat→List Nat) (c x k:Nat):Prop :=
 ∃ M' P' D',SpA w w' B p g n M' (c+k+1)∧Inv n V r No M' I P' D'∧Cl M' P' D' x k∧Rest n r x M M'∧(∀ y,(M' y).up=(M y).up)
theorem down_top {w1:World} {x:Nat} (hI:Inv n V r No M I P D) (hx:x<n) (hu:(M x).up=none) (hM:SpA w w1 B p g n (setM M x) (c+1)):Down w w1 B p g n V r M I c x 0:=by
 obtain ⟨t1,t2⟩:=hI.top x hx hu
 exact ⟨_,_,_,hM,setM_inv hI hx t1 t2,.top (by rw [setM_up hI hx];exact hu) (setM_clear hI hx t1 t2),setM_rest hI hx,setM_up hI hx⟩
theorem down_step {w2:World} {x u k:Nat} {M1:Nat→Nd} {P1:Nat→Bool} {D1:Nat→Int} (hI:Inv n V r No M I P D) (hx:x<n) (hu:(M x).up=some u) (hI1:Inv n V r No M1 I P1 D1) (hcl:Cl M1 P1 D1 u k) (hR:Rest n r u M M1) (hup:∀ y,(M1 y).up=(M y).up) (hM:SpA w w2 B p g n (setM M1 x) (c+k+1+1)):Down w w2 B p g n V r M I c x (k+1):=by
 obtain ⟨hun,hul⟩:=hI.up_len hx hu
 have hu1:(M1 x).up=some u:=by rw [hup];exact hu
 obtain ⟨_,s,hs⟩:=hI1.par x u hx hu1
 obtain ⟨t1,t2⟩:=clear_child hI1 hun hcl.clear hs
 have hru:r x=r u:=(hI1.row_sub hun (hI1.sub hun hs x (hI1.self hx))).1
 exact ⟨_,_,_,hM,setM_inv hI1 hx t1 t2,.step (by rw [setM_up hI1 hx];exact hu1) (setM_clear hI1 hx t1 t2) (hcl.sett (m:=0) hI1 hx hun hul),(hR.row hru.symm).trans (setM_rest hI1 hx),fun y=>by rw [setM_up hI1 hx];exact hup y⟩
theorem down_any:∀ (k:Nat) {w:World} {c:Nat} {M:Nat→Nd} {P:Nat→Bool} {D:Nat→Int} {x:Nat},SpM w B p g n M c→Inv n V r No M I P D→x<n→Dep M x k →
  Calls Tryz.prog 138 #[.pointer (some ⟨p,0,none⟩),.int .i64 (x:Int)] w fun e w'=>e=.returned (.tuple #[])∧Down w w' B p g n V r M I c x k:=by
 intro k
 induction k with
 | zero =>
  intro w c M P D x h hI hx hd
  have hu:(M x).up=none:=by cases hd;assumption
  have HE:=hid (fun w1 hM=>down_top (w1:=w1) (w:=w) (c:=c) (B:=B) (p:=p) (g:=g) hI hx hu hM)
  have HK:=hid (settle_any h hx (kids hI hx))
  have n0:=h.head
  have c4:=h.cells hx 4 _ rfl
  rw [hu] at c4
  simp only [oi] at c4
  have hxi:(x:Int)<(n:Int):=by omega
  have hx0:(0:Int)≤(x:Int):=by omega
  clear h hI hd hu
  go_enter Tryz.func138,Tryz.ntmps138
  go_wp2_with fail
  refine HK.out.mono ?_
  rintro e w1 ⟨rfl,hA⟩
  have HA:=hid (HE.out _ hA)
  clear hA
  go_wp2
  go_end0
  exact ⟨rfl,HA.out⟩
 | succ k ih =>
  intro w c M P D x h hI hx hd
  cases hd with
  | @step _ u _ hu hd =>
  have hun:=(hI.up_len hx hu).1
  have HI:=hid hI
  have HU:=hid hu
  have HIH:=hid (ih h hI hun hd)
  have n0:=h.head
  have c4:=h.cells hx 4 _ rfl
  rw [hu] at c4
  simp only [oi] at c4
  have hxi:(x:Int)<(n:Int):=by omega
  have hx0:(0:Int)≤(x:Int):=by omega
  have hum:¬ (u:Int) = -1:=by omega
  clear h hI hd hu ih
  go_enter Tryz.func138,Tryz.ntmps138
  go_wp2_with fail
  refine HIH.out.mono ?_
  rintro e w1 ⟨rfl,M1,P1,D1,hA,hI1,hcl,hR,hup⟩
  have HK:=hid (settle_any hA.toSpM hx (kids hI1 hx))
  have HE:=hid (fun w2 hM=>down_step (w2:=w2) (w:=w) (c:=c) (B:=B) (p:=p) (g:=g) HI.out hx HU.out hI1 hcl hR hup (hA.then hM))
  clear hA hI1 hcl hR hup
  go_wp2_with fail
  refine HK.out.mono ?_
  rintro e w2 ⟨rfl,hA⟩
  have HA:=hid (HE.out _ hA)
  clear hA
  go_wp2
  go_end0
  exact ⟨rfl,HA.out⟩
def Splayed (w w':World) (B p g n:Nat) (V:Nat→Int) (r:Nat→List Nat) (M:Nat→Nd) (I:Nat→List Nat) (c x k:Nat):Prop :=
 ∃ M' I' P' D',SpA w w' B p g n M' (c+2*k+1)∧Inv n V r No M' I' P' D'∧(M' x).up=none∧Clear M' P' D' x∧Rest n r x M M'∧pot I' n+3*(I x).length.log2+k / 2≤pot I n+3*(I' x).length.log2
structure Mid (w wr:World) (B p g n:Nat) (V:Nat→Int) (r:Nat→List Nat) (M:Nat→Nd) (I:Nat→List Nat) (c x k j q:Nat) (M1:Nat→Nd) (I1:Nat→List Nat) (P1:Nat→Bool) (D1:Nat→Int):Prop where
 mem:SpA w wr B p g n M1 (c+k+1+q)
 inv:Inv n V r No M1 I1 P1 D1
 cl:Cl M1 P1 D1 x j
 rest:Rest n r x M M1
 len:k=j+q
 par:j=0∨q % 2=0
 cost:pot I1 n+3*(I x).length.log2+q / 2≤pot I n+3*(I1 x).length.log2
theorem Mid.start {wr:World} {x k:Nat} (h:Down w wr B p g n V r M I c x k):∃ M1 I1 P1 D1,Mid w wr B p g n V r M I c x k k 0 M1 I1 P1 D1:=by
 obtain ⟨M1,P1,D1,h1,h2,h3,h4,_⟩:=h
 exact ⟨M1,I,P1,D1,h1,h2,h3,h4,rfl,.inr rfl,by omega⟩
theorem Mid.finish {wr:World} {x k q:Nat} {M1:Nat→Nd} {I1:Nat→List Nat} {P1:Nat→Bool} {D1:Nat→Int} (h:Mid w wr B p g n V r M I c x k 0 q M1 I1 P1 D1):Splayed w wr B p g n V r M I c x k:=by
 have e:=h.len
 have hm:=h.mem
 have hc:=h.cost
 rw [show c+k+1+q=c+2*k+1 by omega] at hm
 rw [show q / 2=k / 2 by omega] at hc
 refine ⟨M1,I1,P1,D1,hm,h.inv,?_,h.cl.clear,h.rest,hc⟩
 cases h.cl with
 | top h _=>exact h
theorem side_is (h:Inv n V r No M I P D) {x u:Nat} {s:Bool} (hx:x<n) (hu:(M x).up=some u) (hs:(M u).b s=some x):sideM M x=s:=by
 have h1:=h.side_b hx hu
 exact h.side_uniq (h.up_len hx hu).1 h1 hs
theorem row_eq (h:Inv n V r No M I P D) {x u:Nat} (hx:x<n) (hu:(M x).up=some u):r u=r x:=by
 obtain ⟨hun,s,hs⟩:=h.par x u hx hu
 exact (h.row_sub hun (h.sub hun hs x (h.self hx))).1.symm
section
variable {w1 w2:World} {x k j q u gt:Nat} {M1:Nat→Nd} {I1:Nat→List Nat} {P1:Nat→Bool} {D1:Nat→Int}
theorem Mid.one (h:Mid w w1 B p g n V r M I c x k 1 q M1 I1 P1 D1) (hx:x<n) (hu:(M1 x).up=some u) (hM:SpA w1 w2 B p g n (rotM M1 x u (sideM M1 x) (sideM M1 u)) (c+k+1+q+1)) :
  ∃ M3 I3 P3 D3,Mid w w2 B p g n V r M I c x k 0 (q+1) M3 I3 P3 D3:=by
 have hs:=h.inv.side_b hx hu
 obtain ⟨hun,_⟩:=h.inv.up_len hx hu
 have hcu:Clear M1 P1 D1 u:=by
  cases h.cl with
  | step g1 _ g3=>rw [hu] at g1;cases g1;exact g3.clear
 have hp:=h.par
 have hc:=h.cost
 have hz:=zig_pot (s:=sideM M1 x) h.inv hx hu hs
 refine ⟨_,rotI M1 I1 x u (sideM M1 x),P1,D1,h.mem.then hM,rotM_inv h.inv hx hu hs (fun g hg=>h.inv.side_b hun hg) h.cl.clear hcu,rotM_cl h.inv hx hu hs h.cl,h.rest.trans (rotM_rest h.inv hx hu hs),by have:=h.len;omega,.inl rfl,?_⟩
 rw [show (q+1) / 2=q / 2 by omega]
 omega
theorem Mid.zz1 (h:Mid w w1 B p g n V r M I c x k (j+2) q M1 I1 P1 D1) (hx:x<n) (hu:(M1 x).up=some u) (hg:(M1 u).up=some gt) (hsd:sideM M1 x=sideM M1 u) (hM:SpA w1 w2 B p g n (rotM M1 u gt (sideM M1 u) (sideM M1 gt)) (c+k+1+q+1)) :
  Inv n V r No (rotM M1 u gt (sideM M1 u) (sideM M1 gt)) (rotI M1 I1 u gt (sideM M1 u)) P1 D1∧((rotM M1 u gt (sideM M1 u) (sideM M1 gt)) x).up=some u∧Clear (rotM M1 u gt (sideM M1 u) (sideM M1 gt)) P1 D1 x∧Cl (rotM M1 u gt (sideM M1 u) (sideM M1 gt)) P1 D1 u j:=by
 have hs:=h.inv.side_b hx hu
 obtain ⟨hun,_⟩:=h.inv.up_len hx hu
 obtain ⟨hgn,_⟩:=h.inv.up_len hun hg
 have hsg:=h.inv.side_b hun hg
 have hclu:Cl M1 P1 D1 u (j+1):=by
  cases h.cl with
  | step g1 _ g3=>rw [hu] at g1;cases g1;exact g3
 have hcg:Clear M1 P1 D1 gt:=by
  cases hclu with
  | step g1 _ g3=>rw [hg] at g1;cases g1;exact g3.clear
 rw [hsd] at hs
 obtain ⟨z1,z2,z3,z4,z5,z6,z7⟩:=zigzig h.inv hx hu hs hg hsg (sg:=sideM M1 gt) rfl rfl
 have hcx:=h.cl.clear
 exact ⟨rotM_inv h.inv hun hg hsg (fun g hg=>h.inv.side_b hgn hg) hclu.clear hcg,z1,⟨hcx.1,hcx.2.1,by rw [z6];exact hcx.2.2.1,by rw [z7];exact hcx.2.2.2⟩,rotM_cl h.inv hun hg hsg hclu⟩
theorem Mid.zz2 {w3:World} (h:Mid w w1 B p g n V r M I c x k (j+2) q M1 I1 P1 D1) (hx:x<n) (hu:(M1 x).up=some u) (hg:(M1 u).up=some gt) (hsd:sideM M1 x=sideM M1 u) {M2:Nat→Nd} (h2:M2=rotM M1 u gt (sideM M1 u) (sideM M1 gt)) (hM:SpA w1 w2 B p g n M2 (c+k+1+q+1)) (hM3:SpA w2 w3 B p g n (rotM M2 x u (sideM M2 x) (sideM M2 u)) (c+k+1+q+1+1)) :
  ∃ M3 I3 P3 D3,Mid w w3 B p g n V r M I c x k j (q+2) M3 I3 P3 D3:=by
 obtain ⟨i1,i2,i3,i4⟩:=h.zz1 hx hu hg hsd (by rw [← h2];exact hM)
 have hs:=h.inv.side_b hx hu
 obtain ⟨hun,_⟩:=h.inv.up_len hx hu
 obtain ⟨hgn,_⟩:=h.inv.up_len hun hg
 have hsg:=h.inv.side_b hun hg
 have hru:=row_eq h.inv hx hu
 rw [hsd] at hs
 obtain ⟨z1,z2,z3,z4,z5,z6,z7⟩:=zigzig h.inv hx hu hs hg hsg (sg:=sideM M1 gt) rfl rfl
 rw [← h2] at i1 i2 i3 i4 z1 z2 z3 z4 z5 z6 z7
 have e:sideM M2 x=sideM M1 u:=side_is i1 hx z1 z2
 have hcl:Cl M2 P1 D1 x (j+1):=.step i2 i3 i4
 refine ⟨_,rotI M2 (rotI M1 I1 u gt (sideM M1 u)) x u (sideM M1 u),P1,D1,h.mem.then (hM.then hM3),?_,rotM_cl i1 hx i2 (by rw [e];exact z2) hcl,h.rest.trans ((Rest.row (h2▸rotM_rest h.inv hun hg hsg) hru).trans (rotM_rest i1 hx i2 (by rw [e];exact z2))),by have:=h.len;omega,?_,?_⟩
 ·rw [e];exact rotM_inv i1 hx i2 z2 (fun g hg=>i1.side_b hun hg) i3 i4.clear
 ·right;have:=h.par;omega
 ·have hc:=h.cost
  rw [z4]
  have g1:=St.log_mono (a:=(I1 x).length) (b:=(I1 gt).length) (by have:=h.inv.up_len hx hu;have:=h.inv.up_len hun hg;omega)
  rw [show (q+2) / 2=q / 2+1 by omega]
  omega
theorem Mid.za1 (h:Mid w w1 B p g n V r M I c x k (j+2) q M1 I1 P1 D1) (hx:x<n) (hu:(M1 x).up=some u) (hg:(M1 u).up=some gt) (hsd:sideM M1 x≠sideM M1 u) {M2:Nat→Nd} (h2:M2=rotM M1 x u (sideM M1 x) (sideM M1 u)) :
  Inv n V r No M2 (rotI M1 I1 x u (sideM M1 x)) P1 D1∧(M2 x).up=some gt∧Cl M2 P1 D1 x (j+1)∧Clear M2 P1 D1 gt:=by
 have hs:=h.inv.side_b hx hu
 obtain ⟨hun,_⟩:=h.inv.up_len hx hu
 obtain ⟨hgn,_⟩:=h.inv.up_len hun hg
 have hsg:=h.inv.side_b hun hg
 have e:sideM M1 u = !sideM M1 x:=by cases e1:sideM M1 x <;> cases e2:sideM M1 u <;> simp_all
 have hclu:Cl M1 P1 D1 u (j+1):=by
  cases h.cl with
  | step g1 _ g3=>rw [hu] at g1;cases g1;exact g3
 obtain ⟨z1,z2,z3,z4,z5⟩:=zigzag h.inv hx hu hs hg (by rw [← e];exact hsg) rfl rfl
 rw [← e,← h2] at z1
 have hcl:Cl M2 P1 D1 x (j+1):=by rw [h2];exact rotM_cl h.inv hx hu hs h.cl
 refine ⟨by rw [h2];exact rotM_inv h.inv hx hu hs (fun g hg=>h.inv.side_b hun hg) h.cl.clear hclu.clear,z1,hcl,?_⟩
 cases hcl with
 | step g1 _ g3=>rw [z1] at g1;cases g1;exact g3.clear
theorem Mid.za2 {w3:World} (h:Mid w w1 B p g n V r M I c x k (j+2) q M1 I1 P1 D1) (hx:x<n) (hu:(M1 x).up=some u) (hg:(M1 u).up=some gt) (hsd:sideM M1 x≠sideM M1 u) {M2:Nat→Nd} (h2:M2=rotM M1 x u (sideM M1 x) (sideM M1 u)) (hM:SpA w1 w2 B p g n M2 (c+k+1+q+1)) (hM3:SpA w2 w3 B p g n (rotM M2 x gt (sideM M2 x) (sideM M2 gt)) (c+k+1+q+1+1)) :
  ∃ M3 I3 P3 D3,Mid w w3 B p g n V r M I c x k j (q+2) M3 I3 P3 D3:=by
 obtain ⟨i1,i2,i3,i4⟩:=h.za1 hx hu hg hsd h2
 have hs:=h.inv.side_b hx hu
 obtain ⟨hun,_⟩:=h.inv.up_len hx hu
 obtain ⟨hgn,_⟩:=h.inv.up_len hun hg
 have hsg:=h.inv.side_b hun hg
 have e:sideM M1 u = !sideM M1 x:=by cases e1:sideM M1 x <;> cases e2:sideM M1 u <;> simp_all
 obtain ⟨z1,z2,z3,z4,z5⟩:=zigzag h.inv hx hu hs hg (by rw [← e];exact hsg) rfl rfl
 rw [← e,← h2] at z1 z2 z3 z4 z5
 have e2:sideM M2 x=sideM M1 u:=side_is i1 hx z1 z2
 refine ⟨_,rotI M2 (rotI M1 I1 x u (sideM M1 x)) x gt (sideM M1 u),P1,D1,h.mem.then (hM.then hM3),?_,rotM_cl i1 hx i2 (by rw [e2];exact z2) i3,h.rest.trans ((h2▸rotM_rest h.inv hx hu hs).trans (rotM_rest i1 hx i2 (by rw [e2];exact z2))),by have:=h.len;omega,?_,?_⟩
 ·rw [e2];exact rotM_inv i1 hx i2 z2 (fun g hg=>i1.side_b hgn hg) i3.clear i4
 ·right;have:=h.par;omega
 ·have hc:=h.cost
  rw [z4]
  rw [show (q+2) / 2=q / 2+1 by omega]
  omega
end
end
end Sv
end Go.Proofs.YthhlfphnokdfaaaGreat
namespace Go.Proofs.YthhlfphnokdfaaaGreat
open Go.ChangeShapes Go.WideShapes Go.ChangeAt Go.RowKit
open Lib (hid)
namespace Sv
section
variable {w w0:World} {B p g n c:Nat} {V:Nat→Int} {r:Nat→List Nat} {M:Nat→Nd} {I:Nat→List Nat} {P:Nat→Bool} {D:Nat→Int}
theorem cl_cases {x j:Nat} (h:Cl M P D x j):(j=0∧(M x).up=none)∨(∃ u,j=1∧(M x).up=some u∧(M u).up=none∧Clear M P D u)∨(∃ i u gt,j=i+2∧(M x).up=some u∧(M u).up=some gt∧Clear M P D u∧Clear M P D gt):=by
 cases h with
 | top h1 _=>exact .inl ⟨rfl,h1⟩
 | step h1 h2 h3 =>
  cases h3 with
  | top h4 h5=>exact .inr (.inl ⟨_,rfl,h1,h4,h5⟩)
  | step h4 h5 h6=>exact .inr (.inr ⟨_,_,_,rfl,h1,h4,h5,h6.clear⟩)
theorem splay_any (h:SpM w B p g n M c) (hI:Inv n V r No M I P D) {x k:Nat} (hx:x<n) (hd:Dep M x k) :
  Calls Tryz.prog 129 #[.pointer (some ⟨p,0,none⟩),.int .i64 (x:Int)] w fun e w'=>e=.returned (.tuple #[])∧Splayed w w' B p g n V r M I c x k:=by
 have HD:=hid (down_any k h hI hx hd)
 have hxi:(x:Int)<(n:Int):=by omega
 have hx0:(0:Int)≤(x:Int):=by omega
 clear h hI hd
 go_enter Tryz.func129,Tryz.ntmps129
 go_wp2_with fail
 refine HD.out.mono ?_
 rintro e w1 ⟨rfl,hD⟩
 have HS:=hid (Mid.start hD)
 clear hD
 go_wp2
 go_loopg [4] k (fun gg s4 wr=>(∃ z,s4=z)∧∃ q,Hid (∃ M1 I1 P1 D1,Mid w wr B p g n V r M I c x k gg q M1 I1 P1 D1))
 case atStart=>exact ⟨⟨_,rfl⟩,0,HS⟩
 case round =>
  obtain ⟨⟨z4,rfl⟩,q,HM⟩:=hrel
  obtain ⟨M1,I1,P1,D1,hM⟩:=HM.out
  clear HM HS
  have n0:=hM.mem.head
  have c4:=hM.mem.cells hx 4 _ rfl
  rcases cl_cases hM.cl with ⟨rfl,hu⟩ | ⟨u,rfl,hu,hg,hcu⟩ | ⟨i,u,gt,rfl,hu,hg,hcu,hcg⟩
  ·as_aux_lemma =>
   rw [hu] at c4
   simp only [oi] at c4
   have HF:=hid hM.finish
   clear hM hu
   go_wp2
   go_end0
   exact ⟨rfl,HF.out⟩
  ·as_aux_lemma =>
   have hun:=(hM.inv.up_len hx hu).1
   have d4:=hM.mem.cells hun 4 _ rfl
   rw [hu] at c4
   rw [hg] at d4
   simp only [oi] at c4 d4
   have hum:¬ (u:Int) = -1:=by omega
   have hui:(u:Int)<(n:Int):=by omega
   have hu0:(0:Int)≤(u:Int):=by omega
   have HR:=hid (rotate_any hM.mem.toSpM hM.inv hx hu hM.cl.clear hcu)
   have HF:=hid (fun w2 hR=>hM.one (w2:=w2) hx hu hR)
   clear hM hu hg hcu
   go_wp2_with fail
   refine HR.out.mono ?_
   rintro e w2 ⟨rfl,hA⟩
   have HN:=hid (HF.out _ hA)
   clear hA HR HF
   go_wp2
   go_roundg 0
   case measure=>omega
   case rel=>exact ⟨⟨_,rfl⟩,_,HN⟩
  ·as_aux_lemma =>
   have hun:=(hM.inv.up_len hx hu).1
   have hgn:=(hM.inv.up_len hun hg).1
   have d4:=hM.mem.cells hun 4 _ rfl
   rw [hu] at c4
   rw [hg] at d4
   simp only [oi] at c4 d4
   have hum:¬ (u:Int) = -1:=by omega
   have hgm:¬ (gt:Int) = -1:=by omega
   have hui:(u:Int)<(n:Int):=by omega
   have hu0:(0:Int)≤(u:Int):=by omega
   have HSX:=hid (fun wv (hv:SpM wv B p g n M1 (c+k+1+q))=>side_any hv hx hun hu)
   have HSU:=hid (fun wv (hv:SpM wv B p g n M1 (c+k+1+q))=>side_any hv hun hgn hg)
   have HME:=hid hM.mem
   by_cases hsd:sideM M1 x=sideM M1 u
   ·as_aux_lemma =>
    have HRU:=hid (fun wv (hv:SpM wv B p g n M1 (c+k+1+q))=>rotate_any hv hM.inv hun hg hcu hcg)
    have HRX:=hid (fun w2 w3 (hv:SpA w1 w2 B p g n M1 (c+k+1+q)) (hR:SpA w2 w3 B p g n (rotM M1 u gt (sideM M1 u) (sideM M1 gt)) (c+k+1+q+1))=>True.intro)
    have hZ1:=fun (wv w2:World) (h1:Mid w wv B p g n V r M I c x k (i+2) q M1 I1 P1 D1) hR=>h1.zz1 (w2:=w2) hx hu hg hsd hR
    have hZ2:=fun (wv w2 w3:World) (h1:Mid w wv B p g n V r M I c x k (i+2) q M1 I1 P1 D1) {M2} h2 hR hR3=>h1.zz2 (w2:=w2) (w3:=w3) (M2:=M2) hx hu hg hsd h2 hR hR3
    have HQ:=hid (fun (wv:World) (hv:SpA w wv B p g n M1 (c+k+1+q))=>(⟨hv,hM.inv,hM.cl,hM.rest,hM.len,hM.par,hM.cost⟩:Mid w wv B p g n V r M I c x k (i+2) q M1 I1 P1 D1))
    have HZ1:=hid hZ1
    have HZ2:=hid (fun wv w2 w3 h1 h2 hR3=>hZ2 wv w2 w3 h1 rfl h2 hR3)
    have hsz:(sz (sideM M1 x) == sz (sideM M1 u))=true:=by rw [hsd];simp
    have hsz2:sz (sideM M1 x)=sz (sideM M1 u):=by rw [hsd]
    clear hM hu hg hcu hcg hsd HRX hZ1 hZ2
    generalize hqa:sz (sideM M1 x)=qa at *
    generalize hqb:sz (sideM M1 u)=qb at *
    clear hqa hqb
    subst hsz2
    go_wp2_with fail
    refine (HSX.out _ HME.out.toSpM).mono ?_
    rintro e w2 ⟨rfl,hA⟩
    have HM2:=hid (HME.out.then hA)
    clear hA
    go_wp2_with fail
    refine (HSU.out _ HM2.out.toSpM).mono ?_
    rintro e w3 ⟨rfl,hA⟩
    have HM3:=hid (HM2.out.then hA)
    clear hA
    go_wp2_with fail
    refine (HRU.out _ HM3.out.toSpM).mono ?_
    rintro e w4 ⟨rfl,hA⟩
    have HA:=hid hA
    have HM4:=hid (HM3.out.then hA)
    have hz:=HZ1.out _ _ (HQ.out _ HM3.out) hA
    have HRX:=hid (rotate_any HM4.out.toSpM hz.1 hx hz.2.1 hz.2.2.1 hz.2.2.2.clear)
    clear hA hz
    go_wp2_with fail
    refine HRX.out.mono ?_
    rintro e w5 ⟨rfl,hA⟩
    have HN:=hid (HZ2.out _ _ _ (HQ.out _ HM3.out) HA.out hA)
    clear hA
    go_wp2
    go_roundg i
    case measure=>omega
    case rel=>exact ⟨⟨_,rfl⟩,_,HN⟩
   ·as_aux_lemma =>
    have HRU:=hid (fun wv (hv:SpM wv B p g n M1 (c+k+1+q))=>rotate_any hv hM.inv hx hu hM.cl.clear hcu)
    have hZ1:=fun (wv:World) (h1:Mid w wv B p g n V r M I c x k (i+2) q M1 I1 P1 D1) {M2} (h2:M2=rotM M1 x u (sideM M1 x) (sideM M1 u))=>h1.za1 hx hu hg hsd h2
    have hZ2:=fun (wv w2 w3:World) (h1:Mid w wv B p g n V r M I c x k (i+2) q M1 I1 P1 D1) {M2} h2 hR hR3=>h1.za2 (w2:=w2) (w3:=w3) (M2:=M2) hx hu hg hsd h2 hR hR3
    have HQ:=hid (fun (wv:World) (hv:SpA w wv B p g n M1 (c+k+1+q))=>(⟨hv,hM.inv,hM.cl,hM.rest,hM.len,hM.par,hM.cost⟩:Mid w wv B p g n V r M I c x k (i+2) q M1 I1 P1 D1))
    have HZ1:=hid (fun wv h1=>hZ1 wv h1 rfl)
    have HZ2:=hid (fun wv w2 w3 h1 h2 hR3=>hZ2 wv w2 w3 h1 rfl h2 hR3)
    have hsz2:¬ sz (sideM M1 x)=sz (sideM M1 u):=by
     intro e
     apply hsd
     revert e
     cases sideM M1 x <;> cases sideM M1 u <;> simp [sz]
    clear hM hu hg hcu hcg hsd hZ1 hZ2
    generalize hqa:sz (sideM M1 x)=qa at *
    generalize hqb:sz (sideM M1 u)=qb at *
    clear hqa hqb
    go_wp2_with fail
    refine (HSX.out _ HME.out.toSpM).mono ?_
    rintro e w2 ⟨rfl,hA⟩
    have HM2:=hid (HME.out.then hA)
    clear hA
    go_wp2_with fail
    refine (HSU.out _ HM2.out.toSpM).mono ?_
    rintro e w3 ⟨rfl,hA⟩
    have HM3:=hid (HM2.out.then hA)
    clear hA
    go_wp2_with fail
    refine (HRU.out _ HM3.out.toSpM).mono ?_
    rintro e w4 ⟨rfl,hA⟩
    have HA:=hid hA
    have HM4:=hid (HM3.out.then hA)
    have hz:=HZ1.out _ (HQ.out _ HM3.out)
    have HRX:=hid (rotate_any HM4.out.toSpM hz.1 hx hz.2.1 hz.2.2.1.clear hz.2.2.2)
    clear hA hz
    go_wp2_with fail
    refine HRX.out.mono ?_
    rintro e w5 ⟨rfl,hA⟩
    have HN:=hid (HZ2.out _ _ _ (HQ.out _ HM3.out) HA.out hA)
    clear hA
    go_wp2
    go_roundg i
    case measure=>omega
    case rel=>exact ⟨⟨_,rfl⟩,_,HN⟩
end
end Sv
end Go.Proofs.YthhlfphnokdfaaaGreat
namespace Go.Proofs.YthhlfphnokdfaaaGreat
open Go.ChangeShapes Go.WideShapes Go.ChangeAt Go.RowKit
open Lib (hid)
namespace Sv
section
variable {w w0:World} {B p g n c:Nat} {V:Nat→Int} {r:Nat→List Nat} {M:Nat→Nd} {I:Nat→List Nat} {P:Nat→Bool} {D:Nat→Int}
theorem lift_any (h:SpM w B p g n M c) (hI:Inv n V r No M I P D) {x k:Nat} (hx:x<n) (hd:Dep M x k) :
  Calls Tryz.prog 126 #[.pointer (some ⟨p,0,none⟩),.int .i64 (x:Int)] w fun e w'=>e=.returned (.bool true)∧Splayed w w' B p g n V r M I c x k:=by
 have HH:=hid (has_any h (x:Int))
 have HS:=hid (splay_any h hI hx hd)
 have hb:decide (0≤(x:Int)∧(x:Int)<(n:Int))=true:=by simp;omega
 rw [hb] at HH
 clear h hI hd hb
 go_enter Tryz.func126,Tryz.ntmps126
 go_wp2_with fail
 refine HH.out.mono ?_
 rintro e w1 ⟨rfl,rfl⟩
 go_wp2_with fail
 refine HS.out.mono ?_
 rintro e w1 ⟨rfl,hA⟩
 have HA:=hid hA
 clear hA
 go_wp2
 go_ret
 exact ⟨rfl,HA.out⟩
theorem lift_out (h:SpM w B p g n M c) {x:Int} (hx:¬ (0≤x∧x<(n:Int))) :
  Calls Tryz.prog 126 #[.pointer (some ⟨p,0,none⟩),.int .i64 x] w fun e w'=>e=.returned (.bool false)∧w=w':=by
 have HH:=hid (has_any h x)
 have hb:decide (0≤x∧x<(n:Int))=false:=by simpa using hx
 rw [hb] at HH
 clear h hb hx
 go_enter Tryz.func126,Tryz.ntmps126
 go_wp2_with fail
 refine HH.out.mono ?_
 rintro e w1 ⟨rfl,rfl⟩
 go_wp2
 go_ret
 exact ⟨rfl,rfl⟩
def Kid (M:Nat→Nd) (v y:Nat):Prop:=∃ s,(M v).b s=some y
structure Guide (F:Nat→Prop) (B p g n:Nat) (V:Nat→Int) (r:Nat→List Nat) (I:Nat→List Nat) (top:Nat) (fn:Nat) (c1 c2:Value) (Q:Nat→World→Prop) (Done:Nat→Prop):Prop where
 pg:∀ k,PG p g k→F k
 keep:∀ v wa wb,Q v wa→Sp.Off (PG p g) wa wb→Q v wb
 asks:∀ (v:Nat) (wa:World) (M:Nat→Nd) (P:Nat→Bool) (D:Nat→Int) (cc:Nat),SpM wa B p g n M cc→Inv n V r No M I P D→Clear M P D v→v<n→r v=r top→Q v wa →
  Calls Tryz.prog fn #[.int .i64 (v:Int),c1,c2] wa fun e wb=>∃ res:Option Nat,e=.returned (.int .i64 (oi res))∧SpM wb B p g n M cc∧Sp.Off F wa wb∧(res=none→Done v)∧∀ y,res=some y→Kid M v y∧Q y wb
structure Dw (F:Nat→Prop) (w wr:World) (B p g n:Nat) (V:Nat→Int) (r:Nat→List Nat) (M0:Nat→Nd) (I:Nat→List Nat) (top c v j:Nat) (M:Nat→Nd) (P:Nat→Bool) (D:Nat→Int):Prop where
 mem:SpM wr B p g n M (c+j)
 off:Sp.Off F w wr
 inv:Inv n V r No M I P D
 cl:Cl M P D v j
 lt:v<n
 row:r v=r top
 rest:Rest n r top M0 M
def Ended (F:Nat→Prop) (w w':World) (B p g n:Nat) (V:Nat→Int) (r:Nat→List Nat) (M0:Nat→Nd) (I:Nat→List Nat) (top c v:Nat):Prop :=
 ∃ c' M' I' P' D',SpM w' B p g n M' c'∧Sp.Off F w w'∧Inv n V r No M' I' P' D'∧(M' v).up=none∧Clear M' P' D' v∧Rest n r top M0 M'∧v<n∧r v=r top∧c<c'∧c' + 6*pot I' n≤c+6*pot I n+18*(I' v).length.log2+4
section
variable {F:Nat→Prop} {wr w2 w3:World} {M0:Nat→Nd} {top v j y:Nat}
theorem Dw.ended (hF:∀ k,PG p g k→F k) (h:Dw F w wr B p g n V r M0 I top c v j M P D) (hs:Splayed wr w2 B p g n V r M I (c+j) v j):Ended F w w2 B p g n V r M0 I top c v:=by
 obtain ⟨M',I',P',D',h1,h2,h3,h4,h5,h6⟩:=hs
 exact ⟨_,M',I',P',D',h1.toSpM,h.off.trans (h1.off.mono hF) fun k hk=>.inl hk,h2,h3,h4,h.rest.trans (h5.row h.row),h.lt,h.row,by omega,by omega⟩
theorem Dw.next (hF:∀ k,PG p g k→F k) (h:Dw F w wr B p g n V r M0 I top c v j M P D) {s:Bool} (hy:(M v).b s=some y) (hM:SpA wr w2 B p g n (setM M y) (c+j+1)):Dw F w w2 B p g n V r M0 I top c y (j+1) (setM M y) (setP M y P) (setD M y D)∧(I y).length<(I v).length:=by
 obtain ⟨g1,g2,_⟩:=h.inv.ch v s y h.lt hy
 obtain ⟨t1,t2⟩:=clear_child h.inv h.lt h.cl.clear hy
 have hl:=h.inv.below h.lt hy
 have hr:r y=r v:=(h.inv.row_sub h.lt (h.inv.sub h.lt hy y (h.inv.self g1))).1
 exact ⟨⟨hM.toSpM,h.off.trans (hM.off.mono hF) fun k hk=>.inl hk,setM_inv h.inv g1 t1 t2,.step (by rw [setM_up h.inv g1];exact g2) (setM_clear h.inv g1 t1 t2) (h.cl.sett (m:=0) h.inv g1 h.lt hl),g1,hr.trans h.row,h.rest.trans ((setM_rest h.inv g1).row (hr.trans h.row))⟩,hl⟩
theorem Dw.asked (h:Dw F w wr B p g n V r M0 I top c v j M P D) (hM:SpM w2 B p g n M (c+j)) (ho:Sp.Off F wr w2):Dw F w w2 B p g n V r M0 I top c v j M P D :=
 ⟨hM,h.off.trans ho fun k hk=>.inl hk,h.inv,h.cl,h.lt,h.row,h.rest⟩
end
theorem descend_end (h:SpM w B p g n M c) (hI:Inv n V r No M I P D) {top:Nat} (hx:top<n) (hu:(M top).up=none) (hc:Clear M P D top) {F:Nat→Prop} {b1 b2:Nat} {Q:Nat→World→Prop} {Done:Nat→Prop} (hG:Guide F B p g n V r I top 137 (.pointer (some ⟨b1,0,none⟩)) (.pointer (some ⟨b2,0,none⟩)) Q Done) (hQ:Q top w) :
  Calls Tryz.prog 132 #[.pointer (some ⟨p,0,none⟩),.int .i64 (top:Int),.func (.func 137) #[] #[.pointer (some ⟨b1,0,none⟩),.pointer (some ⟨b2,0,none⟩)]] w fun e w'=>∃ v:Nat,e=.returned (.int .i64 (v:Int))∧Done v∧Ended F w w' B p g n V r M I top c v:=by
 have HG:=hid hG
 have HA0:=hid (hG.asks top w M P D c h hI hc hx rfl hQ)
 have HD0:=hid (show Dw F w w B p g n V r M I top c top 0 M P D from ⟨h,Sp.Off.refl _ _,hI,.top hu hc,hx,rfl,Rest.refl _⟩)
 clear h hI hx hu hc hG hQ
 generalize hTV:M=M0 at *
 generalize hTP:P=P0 at *
 generalize hTD:D=D0 at *
 clear hTV hTP hTD
 go_enter Tryz.func132,Tryz.ntmps132
 go_wp2_with fail
 refine HA0.out.mono ?_
 rintro e w1 ⟨res,rfl,hM,ho,hd,hy⟩
 have HD1:=hid (HD0.out.asked hM ho)
 have HR1:=hid (⟨hd,hy⟩:(res=none→Done top)∧∀ y,res=some y→Kid M0 top y∧Q y w1)
 clear hM ho hd hy HA0 HD0
 go_wp2
 go_loopg [7,8] (I top).length (fun gg s7 s8 wr=>∃ (v:Nat) (res:Option Nat) (j:Nat),s7=.int .i64 (v:Int)∧s8=.int .i64 (oi res)∧gg=(I v).length∧Hid (∃ M P D,Dw F w wr B p g n V r M0 I top c v j M P D∧(res=none→Done v)∧∀ y,res=some y→Kid M v y∧Q y wr))
 case atStart=>exact ⟨_,_,_,rfl,rfl,rfl,hid ⟨_,_,_,HD1.out,HR1.out⟩⟩
 case round =>
  obtain ⟨v,res,j,rfl,rfl,hgg,HH⟩:=hrel
  obtain ⟨M,P,D,hW,hdn,hch⟩:=HH.out
  clear HH HD1 HR1
  cases res with
  | none =>
   have HDN:=hid (hdn rfl)
   have HS:=hid (splay_any hW.mem hW.inv hW.lt hW.cl.dep)
   have HW:=hid hW
   rw [show oi none = -1 from rfl]
   clear hW hdn hch
   go_wp2_with fail
   refine HS.out.mono ?_
   rintro e w2 ⟨rfl,hA⟩
   have HE:=hid (HW.out.ended HG.out.pg hA)
   clear hA
   go_wp2
   go_ret
   exact ⟨v,rfl,HDN.out,HE.out⟩
  | some y =>
   obtain ⟨⟨s,hs⟩,hq⟩:=hch y rfl
   have hyn:=(hW.inv.ch v s y hW.lt hs).1
   have HS:=hid (settle_any hW.mem hyn (kids hW.inv hyn))
   have HW:=hid hW
   have HB:=hid hs
   have HQ:=hid hq
   have hym:¬ (y:Int) = -1:=by omega
   rw [show oi (some y)=(y:Int) from rfl]
   clear hW hdn hch hs hq
   go_wp2_with fail
   refine HS.out.mono ?_
   rintro e w2 ⟨rfl,hA⟩
   have hN:=HW.out.next HG.out.pg HB.out hA
   have HN:=hid hN.1
   have HLT:=hid hN.2
   have HAK:=hid (HG.out.asks y w2 _ _ _ _ HN.out.mem HN.out.inv HN.out.cl.clear hyn HN.out.row (HG.out.keep _ _ _ HQ.out hA.off))
   clear hA hN
   go_wp2_with fail
   refine HAK.out.mono ?_
   rintro e w3 ⟨res2,rfl,hM,ho,hd,hy⟩
   have HF:=hid (⟨_,_,_,HN.out.asked hM ho,hd,hy⟩:∃ M P D,Dw F w w3 B p g n V r M0 I top c y (j+1) M P D∧(res2=none→Done y)∧∀ z,res2=some z→Kid M y z∧Q z w3)
   clear hM ho hd hy
   go_wp2
   go_roundg (I y).length
   case measure=>rw [hgg];exact HLT.out
   case rel=>exact ⟨y,res2,_,rfl,rfl,rfl,HF⟩
theorem descend_at (h:SpM w B p g n M c) (hI:Inv n V r No M I P D) {top:Nat} (hx:top<n) (hu:(M top).up=none) (hc:Clear M P D top) {F:Nat→Prop} {b1 b2:Nat} {Q:Nat→World→Prop} {Done:Nat→Prop} (hG:Guide F B p g n V r I top 135 (.pointer (some ⟨b1,0,none⟩)) (.pointer (some ⟨b2,0,none⟩)) Q Done) (hQ:Q top w) :
  Calls Tryz.prog 132 #[.pointer (some ⟨p,0,none⟩),.int .i64 (top:Int),.func (.func 135) #[] #[.pointer (some ⟨b1,0,none⟩),.pointer (some ⟨b2,0,none⟩)]] w fun e w'=>∃ v:Nat,e=.returned (.int .i64 (v:Int))∧Done v∧Ended F w w' B p g n V r M I top c v:=by
 have HG:=hid hG
 have HA0:=hid (hG.asks top w M P D c h hI hc hx rfl hQ)
 have HD0:=hid (show Dw F w w B p g n V r M I top c top 0 M P D from ⟨h,Sp.Off.refl _ _,hI,.top hu hc,hx,rfl,Rest.refl _⟩)
 clear h hI hx hu hc hG hQ
 generalize hTV:M=M0 at *
 generalize hTP:P=P0 at *
 generalize hTD:D=D0 at *
 clear hTV hTP hTD
 go_enter Tryz.func132,Tryz.ntmps132
 go_wp2_with fail
 refine HA0.out.mono ?_
 rintro e w1 ⟨res,rfl,hM,ho,hd,hy⟩
 have HD1:=hid (HD0.out.asked hM ho)
 have HR1:=hid (⟨hd,hy⟩:(res=none→Done top)∧∀ y,res=some y→Kid M0 top y∧Q y w1)
 clear hM ho hd hy HA0 HD0
 go_wp2
 go_loopg [7,8] (I top).length (fun gg s7 s8 wr=>∃ (v:Nat) (res:Option Nat) (j:Nat),s7=.int .i64 (v:Int)∧s8=.int .i64 (oi res)∧gg=(I v).length∧Hid (∃ M P D,Dw F w wr B p g n V r M0 I top c v j M P D∧(res=none→Done v)∧∀ y,res=some y→Kid M v y∧Q y wr))
 case atStart=>exact ⟨_,_,_,rfl,rfl,rfl,hid ⟨_,_,_,HD1.out,HR1.out⟩⟩
 case round =>
  obtain ⟨v,res,j,rfl,rfl,hgg,HH⟩:=hrel
  obtain ⟨M,P,D,hW,hdn,hch⟩:=HH.out
  clear HH HD1 HR1
  cases res with
  | none =>
   have HDN:=hid (hdn rfl)
   have HS:=hid (splay_any hW.mem hW.inv hW.lt hW.cl.dep)
   have HW:=hid hW
   rw [show oi none = -1 from rfl]
   clear hW hdn hch
   go_wp2_with fail
   refine HS.out.mono ?_
   rintro e w2 ⟨rfl,hA⟩
   have HE:=hid (HW.out.ended HG.out.pg hA)
   clear hA
   go_wp2
   go_ret
   exact ⟨v,rfl,HDN.out,HE.out⟩
  | some y =>
   obtain ⟨⟨s,hs⟩,hq⟩:=hch y rfl
   have hyn:=(hW.inv.ch v s y hW.lt hs).1
   have HS:=hid (settle_any hW.mem hyn (kids hW.inv hyn))
   have HW:=hid hW
   have HB:=hid hs
   have HQ:=hid hq
   have hym:¬ (y:Int) = -1:=by omega
   rw [show oi (some y)=(y:Int) from rfl]
   clear hW hdn hch hs hq
   go_wp2_with fail
   refine HS.out.mono ?_
   rintro e w2 ⟨rfl,hA⟩
   have hN:=HW.out.next HG.out.pg HB.out hA
   have HN:=hid hN.1
   have HLT:=hid hN.2
   have HAK:=hid (HG.out.asks y w2 _ _ _ _ HN.out.mem HN.out.inv HN.out.cl.clear hyn HN.out.row (HG.out.keep _ _ _ HQ.out hA.off))
   clear hA hN
   go_wp2_with fail
   refine HAK.out.mono ?_
   rintro e w3 ⟨res2,rfl,hM,ho,hd,hy⟩
   have HF:=hid (⟨_,_,_,HN.out.asked hM ho,hd,hy⟩:∃ M P D,Dw F w w3 B p g n V r M0 I top c y (j+1) M P D∧(res2=none→Done y)∧∀ z,res2=some z→Kid M y z∧Q z w3)
   clear hM ho hd hy
   go_wp2
   go_roundg (I y).length
   case measure=>rw [hgg];exact HLT.out
   case rel=>exact ⟨y,res2,_,rfl,rfl,rfl,HF⟩
theorem descend_least (h:SpM w B p g n M c) (hI:Inv n V r No M I P D) {top:Nat} (hx:top<n) (hu:(M top).up=none) (hc:Clear M P D top) {F:Nat→Prop} {b1 b2:Nat} {Q:Nat→World→Prop} {Done:Nat→Prop} (hG:Guide F B p g n V r I top 133 (.pointer (some ⟨b1,0,none⟩)) (.pointer (some ⟨b2,0,none⟩)) Q Done) (hQ:Q top w) :
  Calls Tryz.prog 132 #[.pointer (some ⟨p,0,none⟩),.int .i64 (top:Int),.func (.func 133) #[] #[.pointer (some ⟨b1,0,none⟩),.pointer (some ⟨b2,0,none⟩)]] w fun e w'=>∃ v:Nat,e=.returned (.int .i64 (v:Int))∧Done v∧Ended F w w' B p g n V r M I top c v:=by
 have HG:=hid hG
 have HA0:=hid (hG.asks top w M P D c h hI hc hx rfl hQ)
 have HD0:=hid (show Dw F w w B p g n V r M I top c top 0 M P D from ⟨h,Sp.Off.refl _ _,hI,.top hu hc,hx,rfl,Rest.refl _⟩)
 clear h hI hx hu hc hG hQ
 generalize hTV:M=M0 at *
 generalize hTP:P=P0 at *
 generalize hTD:D=D0 at *
 clear hTV hTP hTD
 go_enter Tryz.func132,Tryz.ntmps132
 go_wp2_with fail
 refine HA0.out.mono ?_
 rintro e w1 ⟨res,rfl,hM,ho,hd,hy⟩
 have HD1:=hid (HD0.out.asked hM ho)
 have HR1:=hid (⟨hd,hy⟩:(res=none→Done top)∧∀ y,res=some y→Kid M0 top y∧Q y w1)
 clear hM ho hd hy HA0 HD0
 go_wp2
 go_loopg [7,8] (I top).length (fun gg s7 s8 wr=>∃ (v:Nat) (res:Option Nat) (j:Nat),s7=.int .i64 (v:Int)∧s8=.int .i64 (oi res)∧gg=(I v).length∧Hid (∃ M P D,Dw F w wr B p g n V r M0 I top c v j M P D∧(res=none→Done v)∧∀ y,res=some y→Kid M v y∧Q y wr))
 case atStart=>exact ⟨_,_,_,rfl,rfl,rfl,hid ⟨_,_,_,HD1.out,HR1.out⟩⟩
 case round =>
  obtain ⟨v,res,j,rfl,rfl,hgg,HH⟩:=hrel
  obtain ⟨M,P,D,hW,hdn,hch⟩:=HH.out
  clear HH HD1 HR1
  cases res with
  | none =>
   have HDN:=hid (hdn rfl)
   have HS:=hid (splay_any hW.mem hW.inv hW.lt hW.cl.dep)
   have HW:=hid hW
   rw [show oi none = -1 from rfl]
   clear hW hdn hch
   go_wp2_with fail
   refine HS.out.mono ?_
   rintro e w2 ⟨rfl,hA⟩
   have HE:=hid (HW.out.ended HG.out.pg hA)
   clear hA
   go_wp2
   go_ret
   exact ⟨v,rfl,HDN.out,HE.out⟩
  | some y =>
   obtain ⟨⟨s,hs⟩,hq⟩:=hch y rfl
   have hyn:=(hW.inv.ch v s y hW.lt hs).1
   have HS:=hid (settle_any hW.mem hyn (kids hW.inv hyn))
   have HW:=hid hW
   have HB:=hid hs
   have HQ:=hid hq
   have hym:¬ (y:Int) = -1:=by omega
   rw [show oi (some y)=(y:Int) from rfl]
   clear hW hdn hch hs hq
   go_wp2_with fail
   refine HS.out.mono ?_
   rintro e w2 ⟨rfl,hA⟩
   have hN:=HW.out.next HG.out.pg HB.out hA
   have HN:=hid hN.1
   have HLT:=hid hN.2
   have HAK:=hid (HG.out.asks y w2 _ _ _ _ HN.out.mem HN.out.inv HN.out.cl.clear hyn HN.out.row (HG.out.keep _ _ _ HQ.out hA.off))
   clear hA hN
   go_wp2_with fail
   refine HAK.out.mono ?_
   rintro e w3 ⟨res2,rfl,hM,ho,hd,hy⟩
   have HF:=hid (⟨_,_,_,HN.out.asked hM ho,hd,hy⟩:∃ M P D,Dw F w w3 B p g n V r M0 I top c y (j+1) M P D∧(res2=none→Done y)∧∀ z,res2=some z→Kid M y z∧Q z w3)
   clear hM ho hd hy
   go_wp2
   go_roundg (I y).length
   case measure=>rw [hgg];exact HLT.out
   case rel=>exact ⟨y,res2,_,rfl,rfl,rfl,HF⟩
end
end Sv
end Go.Proofs.YthhlfphnokdfaaaGreat
namespace Go.Proofs.YthhlfphnokdfaaaGreat
open Go.ChangeShapes Go.WideShapes Go.ChangeAt Go.RowKit
open Lib (hid)
namespace Sv
def Bx (w:World) (b:Nat) (v:Value):Prop:=w.cell? ⟨b,0,none⟩=some v∧b<w.heap.size∧w.frozen? ⟨b,0,none⟩=false
section
variable {w w2 w0:World} {B p g n c:Nat} {V:Nat→Int} {r:Nat→List Nat} {M:Nat→Nd} {I:Nat→List Nat} {P:Nat→Bool} {D:Nat→Int}
theorem Bx.off {b:Nat} {v:Value} {F:Nat→Prop} (h:Bx w b v) (ho:Sp.Off F w w2) (hb:¬ F b):Bx w2 b v:=by
 have e:=ho.block b h.2.1 hb
 refine ⟨?_,Nat.lt_of_lt_of_le h.2.1 ho.size,?_⟩
 ·have:=h.1
  simp only [World.cell?] at this ⊢
  rw [e];exact this
 ·have:=h.2.2
  simp only [World.frozen?] at this ⊢
  rw [e];exact this
theorem Bx.set {b:Nat} {v u:Value} (h:Bx w b v):Bx (w.setCell ⟨b,0,none⟩ u) b u:=by
 obtain ⟨h1,h2,h3⟩:=h
 refine ⟨?_,by simpa [World.setCell] using h2,?_⟩
 ·simp only [World.cell?,World.setCell,Array.getElem?_modify] at h1 ⊢
  cases e:w.heap[b]? with
  | none=>rw [e] at h1;simp at h1
  | some o =>
   rw [e] at h1
   cases o <;> simp at h1 ⊢
   rename_i cells t z
   have:0<cells.size:=by
    rcases Nat.eq_zero_or_pos cells.size with c | c
    ·rw [Array.getElem?_eq_none (by omega)] at h1;cases h1
    ·exact c
   simp [this]
 ·simp only [World.frozen?,World.setCell,Array.getElem?_modify] at h3 ⊢
  cases e:w.heap[b]? with
  | none=>simp
  | some o =>
   rw [e] at h3
   cases o <;> simp at h3 ⊢
   all_goals exact h3
def endL (s:Bool) (l:List Nat):Option Nat:=if s then l.getLast? else l.head?
def QEnd (p b1 b2:Nat) (s:Bool) (l:List Nat) (I:Nat→List Nat) (v:Nat) (wa:World):Prop :=
 Bx wa b1 (.pointer (some ⟨p,0,none⟩))∧Bx wa b2 (.int .i64 (sz s))∧∃ t,l=if s then t ++ I v else I v ++ t
theorem guide_end (s:Bool) {top b1 b2:Nat} (hb1:b1≠p∧b1≠g) (hb2:b2≠p∧b2≠g) :
  Guide (PG p g) B p g n V r I top 137 (.pointer (some ⟨b1,0,none⟩)) (.pointer (some ⟨b2,0,none⟩)) (QEnd p b1 b2 s (r top) I) (fun v=>endL s (r top)=some v):=by
 refine ⟨fun k hk=>hk,fun v wa wb hq ho=>⟨hq.1.off ho (by rintro (e | e);exact hb1.1 e;exact hb1.2 e),hq.2.1.off ho (by rintro (e | e);exact hb2.1 e;exact hb2.2 e),hq.2.2⟩,?_⟩
 intro v wa M P D cc h hI hc hv hr hq
 obtain ⟨q1,q2,t,ht⟩:=hq
 have hsp:=hI.spl_clear hv hc false
 simp only [ord] at hsp
 have hsp':I v=IL I ((M v).b false) ++ v :: IL I ((M v).b true):=by simpa using hsp
 have HA:=hid (show SpM wa.drew B p g n M cc∧Sp.Off (PG p g) wa wa.drew∧((M v).b s=none→endL s (r top)=some v)∧∀ y,(M v).b s=some y→Kid M v y∧QEnd p b1 b2 s (r top) I y wa.drew from by
  refine ⟨h.drew,off_drew wa,fun e=>?_,fun y e=>⟨⟨s,e⟩,⟨q1.1,q1.2.1,q1.2.2⟩,⟨q2.1,q2.2.1,q2.2.2⟩,?_⟩⟩
  ·rw [ht]
   cases s
   ·rw [e] at hsp'
    simp [endL,hsp',IL]
   ·rw [e] at hsp'
    simp [endL,hsp',IL]
  ·cases s
   ·rw [e] at hsp'
    refine ⟨v :: IL I ((M v).b true) ++ t,?_⟩
    rw [ht,hsp'];simp [IL]
   ·rw [e] at hsp'
    refine ⟨t ++ IL I ((M v).b false) ++ [v],?_⟩
    rw [ht,hsp'];simp [IL])
 have n0:=h.head
 have c1:=q1.1
 have c2:=q2.1
 have hvi:(v:Int)<(n:Int):=by omega
 have hv0:(0:Int)≤(v:Int):=by omega
 have c5:=h.cells hv 5 _ rfl
 have c6:=h.cells hv 6 _ rfl
 obtain ⟨z0,hz0⟩:∃ z,z=oi ((M v).b false):=⟨_,rfl⟩
 obtain ⟨z1,hz1⟩:∃ z,z=oi ((M v).b true):=⟨_,rfl⟩
 rw [← hz0] at c5
 rw [← hz1] at c6
 have HZ0:=hid hz0
 have HZ1:=hid hz1
 clear h hI hc q1 q2 ht hsp hsp' hz0 hz1 hr
 cases s
 all_goals
  simp only [sz] at c2
  go_enter Tryz.func137,Tryz.ntmps137
  go_wp2
  go_region
  all_goals (try go_wp2)
  all_goals go_ret
 ·exact ⟨(M v).b false,by rw [← HZ0.out];rfl,HA.out⟩
 ·exact ⟨(M v).b true,by rw [← HZ1.out];rfl,HA.out⟩
end
end Sv
end Go.Proofs.YthhlfphnokdfaaaGreat
namespace Go.Proofs.YthhlfphnokdfaaaGreat
open Go.ChangeShapes Go.WideShapes Go.ChangeAt Go.RowKit
open Lib (hid)
namespace Sv
def FB (p g b:Nat) (k:Nat):Prop:=PG p g k∨k=b
def QAt (p b1 b2 place:Nat) (l:List Nat) (I:Nat→List Nat) (v:Nat) (wa:World):Prop :=
 Bx wa b1 (.pointer (some ⟨p,0,none⟩))∧∃ pl:Nat,Bx wa b2 (.int .i64 (pl:Int))∧pl<(I v).length∧∃ t u,l=t ++ I v ++ u∧t.length+pl=place
section
variable {w w2 w0:World} {B p g n c:Nat} {V:Nat→Int} {r:Nat→List Nat} {M:Nat→Nd} {I:Nat→List Nat} {P:Nat→Bool} {D:Nat→Int}
theorem at_mid {l t u A B:List Nat} {v pl place:Nat} (hl:l=t ++ (A ++ v :: B) ++ u) (hp:t.length+pl=place) (e:pl=A.length):l[place]? = some v:=by
 rw [hl,List.append_assoc,List.getElem?_append_right (by omega),show place-t.length=A.length by omega]
 simp
theorem guide_at {top b1 b2 place:Nat} (hb1:b1≠p∧b1≠g) (hb2:b2≠p∧b2≠g) (hb:b1≠b2) :
  Guide (FB p g b2) B p g n V r I top 135 (.pointer (some ⟨b1,0,none⟩)) (.pointer (some ⟨b2,0,none⟩)) (QAt p b1 b2 place (r top) I) (fun v=>(r top)[place]? = some v):=by
 refine ⟨fun k hk=>.inl hk,fun v wa wb hq ho=>?_,?_⟩
 ·obtain ⟨q1,pl,q2,q3⟩:=hq
  exact ⟨q1.off ho (by rintro (e | e);exact hb1.1 e;exact hb1.2 e),pl,q2.off ho (by rintro (e | e);exact hb2.1 e;exact hb2.2 e),q3⟩
 intro v wa M P D cc h hI hc hv hr hq
 obtain ⟨q1,pl,q2,hpl,t,u,ht,htl⟩:=hq
 have hsp':I v=IL I ((M v).b false) ++ v :: IL I ((M v).b true):=by
  have:=hI.spl_clear hv hc false
  simpa [ord] using this
 have hl:=hI.two hv false
 have hk3:=hI.len hv
 have hsm:=h.small
 simp only [Bool.not_false] at hl
 obtain ⟨k,hk⟩:∃ k,k=(IL I ((M v).b false)).length:=⟨_,rfl⟩
 have hco:cO M 0 ((M v).b false)=k:=by
  rw [hk]
  cases e:(M v).b false with
  | none=>rfl
  | some y=>simp only [cO,IL];rw [hI.cnt y (hI.ch v _ y hv e).1 id];omega
 have HCO:=hid (count_any h ((M v).b false) (fun y hy=>(hI.ch v _ y hv hy).1))
 rw [hco] at HCO
 have n0:=h.head
 have c1:=q1.1
 have c2:=q2.1
 have f2:=q2.2.2
 have hvi:(v:Int)<(n:Int):=by omega
 have hv0:(0:Int)≤(v:Int):=by omega
 have c5:=h.cells hv 5 _ rfl
 have c6:=h.cells hv 6 _ rfl
 obtain ⟨z1,hz1⟩:∃ z,z=oi ((M v).b true):=⟨_,rfl⟩
 obtain ⟨z0,hz0⟩:∃ z,z=oi ((M v).b false):=⟨_,rfl⟩
 rw [← hz0] at c5 HCO
 rw [← hz1] at c6
 have HZ0:=hid hz0
 have HZ1:=hid hz1
 have ho:Sp.Off (FB p g b2) wa wa:=Sp.Off.refl _ _
 rcases Nat.lt_trichotomy pl k with hlt | heq | hgt
 ·have HA:=hid (show SpM wa B p g n M cc∧Sp.Off (FB p g b2) wa wa∧((M v).b false=none→(r top)[place]? = some v)∧∀ y,(M v).b false=some y→Kid M v y∧QAt p b1 b2 place (r top) I y wa from by
   refine ⟨h,ho,fun e=>?_,fun y e=>⟨⟨_,e⟩,q1,pl,q2,?_,t,v :: IL I ((M v).b true) ++ u,?_,htl⟩⟩
   ·rw [e] at hk;simp [IL] at hk;omega
   ·rw [e] at hk;simp only [IL] at hk;omega
   ·rw [ht,hsp',e];simp [IL])
  have hcmp:(pl:Int)<(k:Int):=by omega
  clear h hI hc q1 q2 ht hsp' hz0 hz1 hr hl hk hco htl hpl ho
  go_enter Tryz.func135,Tryz.ntmps135
  go_wp2_with fail
  refine HCO.out.mono ?_
  rintro e w1 ⟨rfl,rfl⟩
  go_wp2
  go_ret
  exact ⟨(M v).b false,by rw [← HZ0.out];rfl,HA.out⟩
 ·have HA:=hid (show SpM wa B p g n M cc∧Sp.Off (FB p g b2) wa wa∧((none:Option Nat)=none→(r top)[place]? = some v)∧∀ y,(none:Option Nat)=some y→Kid M v y∧QAt p b1 b2 place (r top) I y wa from
   ⟨h,ho,fun _=>at_mid (by rw [ht,hsp']) htl (by omega),fun y e=>by cases e⟩)
  have hcmp:¬ (pl:Int)<(k:Int):=by omega
  have hcm2:(pl:Int)=(k:Int):=by omega
  clear h hI hc q1 q2 ht hsp' hz0 hz1 hr hl hk hco htl hpl ho
  subst heq
  clear hcm2 hcmp
  go_enter Tryz.func135,Tryz.ntmps135
  go_wp2_with fail
  refine HCO.out.mono ?_
  rintro e w1 ⟨rfl,rfl⟩
  go_wp2
  go_ret
  exact ⟨none,rfl,HA.out.1,HA.out.2.1,fun _=>HA.out.2.2.1 trivial,HA.out.2.2.2⟩
 ·obtain ⟨q,rfl⟩:∃ q,pl=q+k+1:=⟨pl-k-1,by omega⟩
  have HA:=hid (show SpM (wa.setCell ⟨b2,0,none⟩ (.int .i64 (q:Int))) B p g n M cc∧Sp.Off (FB p g b2) wa (wa.setCell ⟨b2,0,none⟩ (.int .i64 (q:Int)))∧((M v).b true=none→(r top)[place]? = some v)∧∀ y,(M v).b true=some y→Kid M v y∧QAt p b1 b2 place (r top) I y (wa.setCell ⟨b2,0,none⟩ (.int .i64 (q:Int))) from by
   have ho2:Sp.Off (fun k=>k=b2) wa (wa.setCell ⟨b2,0,none⟩ (.int .i64 (q:Int))):=(Sp.Off.refl (fun k=>k=b2) wa).set (p:=⟨b2,0,none⟩) (.inl rfl) _
   refine ⟨h.off ho2 (fun e=>hb2.1 e.symm) (fun e=>hb2.2 e.symm),ho2.mono fun k e=>.inr e,fun e=>?_,fun y e=>⟨⟨_,e⟩,q1.off ho2 hb,q,q2.set,?_,t ++ IL I ((M v).b false) ++ [v],u,?_,?_⟩⟩
   ·rw [e,show IL I none=[] from rfl,← hk] at hl;simp at hl;omega
   ·rw [e,show IL I (some y)=I y from rfl,← hk] at hl;omega
   ·rw [ht,hsp',e];simp [IL]
   ·simp only [List.length_append,List.length_singleton];rw [← hk];omega)
  have hcmp:¬ ((q+k+1:Nat):Int)<(k:Int):=by omega
  have hcm2:¬ ((q+k+1:Nat):Int)=(k:Int):=by omega
  have hw1:IntKind.i64.wrap ((k:Int)+1)=((k+1:Nat):Int):=by rw [IntKind.wrap_i64];omega
  have hw2:IntKind.i64.wrap (((q+k+1:Nat):Int)-((k+1:Nat):Int))=(q:Int):=by rw [IntKind.wrap_i64];omega
  clear h hI hc q1 q2 ht hsp' hz0 hz1 hr hl hk hco htl hpl ho hgt
  generalize q+k+1=pp at *
  generalize k+1=kk at *
  go_enter Tryz.func135,Tryz.ntmps135
  go_wp2_with fail
  refine HCO.out.mono ?_
  rintro e w1 ⟨rfl,rfl⟩
  go_wp2
  go_ret
  exact ⟨(M v).b true,by rw [← HZ1.out];rfl,HA.out⟩
end
end Sv
end Go.Proofs.YthhlfphnokdfaaaGreat
