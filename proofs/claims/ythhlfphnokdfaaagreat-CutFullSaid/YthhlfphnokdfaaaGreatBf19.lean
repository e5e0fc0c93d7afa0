/-
  Sva
-/
import Derived.Test.YthhlfphnokdfaaaGreatBf14
set_option linter.unusedVariables false
set_option linter.unusedSimpArgs false
set_option maxRecDepth 100000
set_option maxHeartbeats 4000000
namespace Go.Proofs.YthhlfphnokdfaaaGreat
namespace Sv
structure Nd where
 v:Int
 lo:Int
 hi:Int
 c:Nat
 up:Option Nat
 b:Bool→Option Nat
 t:Bool
 a:Int
abbrev wr (x:Int):Int:=RowKit.wrap64 x
theorem wr_eq (x:Int):wr x=(x+9223372036854775808) % 18446744073709551616-9223372036854775808:=by show RowKit.wrap64 x=_;unfold RowKit.wrap64;rfl
theorem wr_zero:wr (0+0)=0:=by rw [wr_eq];decide
def upd (M:Nat→Nd) (x:Nat) (k:Nd):Nat→Nd:=fun y=>if y=x then k else M y
theorem upd_self (M:Nat→Nd) (x:Nat) (k:Nd):upd M x k x=k:=by simp [upd]
theorem upd_ne (M:Nat→Nd) {x y:Nat} (k:Nd) (h:y≠x):upd M x k y=M y:=by simp [upd,h]
def setb (b:Bool→Option Nat) (s:Bool) (w:Option Nat):Bool→Option Nat:=fun s'=>if s' = s then w else b s'
def IL (I:Nat→List Nat):Option Nat→List Nat
 | none=>[]
 | some y=>I y
def IsMin (V:Nat→Int) (l:List Nat) (m:Int):Prop:=(∃ y∈l,V y=m)∧∀ y∈l,m≤V y
def IsMax (V:Nat→Int) (l:List Nat) (m:Int):Prop:=(∃ y∈l,V y=m)∧∀ y∈l,V y≤m
def sd (M:Nat→Nd) (P:Nat→Bool) (x:Nat):Bool:=P x != (M x).t
structure Inv (n:Nat) (V:Nat→Int) (r:Nat→List Nat) (Z:Nat→Prop) (M:Nat→Nd) (I:Nat→List Nat) (P:Nat→Bool) (D:Nat→Int):Prop where
 ch:∀ x s y,x<n→(M x).b s=some y→y<n∧(M y).up=some x∧P y=sd M P x∧D y=wr (D x+(M x).a)
 par:∀ x u,x<n→(M x).up=some u→u<n∧∃ s,(M u).b s=some x
 spl:∀ x,x<n→I x=IL I ((M x).b (sd M P x)) ++ x :: IL I ((M x).b (!(sd M P x)))
 top:∀ x,x<n→(M x).up=none→P x=false∧D x=0
 nd:∀ x,x<n→(I x).Nodup
 lt:∀ x,x<n→∀ y∈I x,y<n
 val:∀ x,x<n→(M x).v=wr (V x-D x)
 mn:∀ x,x<n→¬ Z x→∃ m,IsMin V (I x) m∧(M x).lo=wr (m-D x)
 mx:∀ x,x<n→¬ Z x→∃ m,IsMax V (I x) m∧(M x).hi=wr (m-D x)
 cnt:∀ x,x<n→¬ Z x→(M x).c=(I x).length
 row:∀ x,x<n→(M x).up=none→∀ y∈I x,r y=I x
 bnd:∀ x,x<n→-4611686018427387904≤V x∧V x≤4611686018427387904
def Clear (M:Nat→Nd) (P:Nat→Bool) (D:Nat→Int) (x:Nat):Prop:=P x=false∧D x=0∧(M x).t=false∧(M x).a=0
inductive Dep (M:Nat→Nd):Nat→Nat→Prop
 | top {x:Nat}:(M x).up=none→Dep M x 0
 | step {x p k:Nat}:(M x).up=some p→Dep M p k→Dep M x (k+1)
inductive Cl (M:Nat→Nd) (P:Nat→Bool) (D:Nat→Int):Nat→Nat→Prop
 | top {x:Nat}:(M x).up=none→Clear M P D x→Cl M P D x 0
 | step {x p k:Nat}:(M x).up=some p→Clear M P D x→Cl M P D p k→Cl M P D x (k+1)
def ord (s:Bool) (A:List Nat) (x:Nat) (B:List Nat):List Nat:=if s then B ++ x :: A else A ++ x :: B
section
variable {n:Nat} {V:Nat→Int} {r:Nat→List Nat} {Z:Nat→Prop} {M:Nat→Nd} {I:Nat→List Nat} {P:Nat→Bool} {D:Nat→Int}
theorem Cl.clear {x k:Nat} (h:Cl M P D x k):Clear M P D x:=by cases h <;> assumption
theorem Cl.dep {x k:Nat} (h:Cl M P D x k):Dep M x k:=by
 induction h with
 | top h1 h2=>exact .top h1
 | step h1 h2 h3 ih=>exact .step h1 ih
theorem Inv.self (h:Inv n V r Z M I P D) {x:Nat} (hx:x<n):x∈I x:=by rw [h.spl x hx];simp
theorem Inv.two (h:Inv n V r Z M I P D) {x:Nat} (hx:x<n) (s:Bool):(I x).length=(IL I ((M x).b s)).length+1+(IL I ((M x).b (!s))).length:=by
 rw [h.spl x hx]
 cases s <;> cases sd M P x <;> simp <;> omega
theorem Inv.below (h:Inv n V r Z M I P D) {x y:Nat} {s:Bool} (hx:x<n) (hy:(M x).b s=some y):(I y).length<(I x).length:=by
 have:=h.two hx s
 rw [hy] at this
 simp only [IL] at this
 omega
theorem Inv.sub (h:Inv n V r Z M I P D) {x y:Nat} {s:Bool} (hx:x<n) (hy:(M x).b s=some y):∀ z∈I y,z∈I x:=by
 intro z hz
 rw [h.spl x hx]
 by_cases c:s=sd M P x
 ·subst c;rw [hy];simp [IL,hz]
 ·have:s = !(sd M P x):=by cases s <;> cases e:sd M P x <;> simp_all
  rw [← this,hy];simp [IL,hz]
theorem Inv.not_self (h:Inv n V r Z M I P D) {x y:Nat} {s:Bool} (hx:x<n) (hy:(M x).b s=some y):x ∉ I y:=by
 intro c
 have h1:=h.nd x hx
 rw [h.spl x hx] at h1
 by_cases e:s=sd M P x
 ·subst e;rw [hy] at h1
  exact (List.nodup_append.1 h1).2.2 x c x (by simp) rfl
 ·have:s = !(sd M P x):=by cases s <;> cases e:sd M P x <;> simp_all
  rw [← this,hy] at h1
  have:=(List.nodup_append.1 h1).2.1
  simp only [List.nodup_cons] at this
  exact this.1 c
theorem Inv.apart (h:Inv n V r Z M I P D) {x y z:Nat} (hx:x<n) (s:Bool) (hy:(M x).b s=some y) (hz:(M x).b (!s)=some z):y≠z:=by
 rintro rfl
 have h1:=h.nd x hx
 rw [h.spl x hx] at h1
 have hyn:=(h.ch x s y hx hy).1
 have e1:(M x).b (sd M P x)=some y:=by cases s <;> cases e:sd M P x <;> simp_all
 have e2:(M x).b (!(sd M P x))=some y:=by cases s <;> cases e:sd M P x <;> simp_all
 rw [e1,e2] at h1
 exact (List.nodup_append.1 h1).2.2 y (h.self hyn) y (List.mem_cons_of_mem _ (h.self hyn)) rfl
theorem Inv.up_len (h:Inv n V r Z M I P D) {x u:Nat} (hx:x<n) (hu:(M x).up=some u):u<n∧(I x).length<(I u).length:=by
 obtain ⟨h1,s,h2⟩:=h.par x u hx hu
 exact ⟨h1,h.below h1 h2⟩
theorem Inv.len (h:Inv n V r Z M I P D) {x:Nat} (hx:x<n):(I x).length≤n:=Sp.len_le (h.nd x hx) (h.lt x hx)
theorem Inv.climb (h:Inv n V r Z M I P D) {x:Nat} (hx:x<n):∃ k,Dep M x k∧∃ z,z<n∧(M z).up=none∧(∀ y∈I x,y∈I z):=by
 have key:∀ (m:Nat) (x:Nat),x<n→n≤(I x).length+m→∃ k,Dep M x k∧∃ z,z<n∧(M z).up=none∧(∀ y∈I x,y∈I z):=by
  intro m
  induction m with
  | zero =>
   intro x hx hm
   cases e:(M x).up with
   | none=>exact ⟨0,.top e,x,hx,e,fun _ hy=>hy⟩
   | some u =>
    have h1:=h.up_len hx e
    have:=h.len h1.1
    omega
  | succ m ih =>
   intro x hx hm
   cases e:(M x).up with
   | none=>exact ⟨0,.top e,x,hx,e,fun _ hy=>hy⟩
   | some u =>
    have h1:=h.up_len hx e
    obtain ⟨k,hk,z,hz,hzt,hsub⟩:=ih u h1.1 (by omega)
    obtain ⟨_,s,h2⟩:=h.par x u hx e
    exact ⟨k+1,.step e hk,z,hz,hzt,fun y hy=>hsub y (h.sub h1.1 h2 y hy)⟩
 exact key n x hx (by omega)
theorem Inv.root_row (h:Inv n V r Z M I P D) {x:Nat} (hx:x<n) (ht:(M x).up=none):r x=I x:=h.row x hx ht x (h.self hx)
theorem Cl.frame {M':Nat→Nd} {x k m:Nat} (h:Cl M P D x k) (hI:Inv n V r Z M I P D) (hx:x<n) (hm:m<(I x).length) (he:∀ z,z<n→m<(I z).length→(M' z).up=(M z).up∧(M' z).t=(M z).t∧(M' z).a=(M z).a):Cl M' P D x k:=by
 induction h with
 | @top y h1 h2 =>
  obtain ⟨e1,e2,e3⟩:=he y hx hm
  exact .top (by rw [e1];exact h1) ⟨h2.1,h2.2.1,by rw [e2];exact h2.2.2.1,by rw [e3];exact h2.2.2.2⟩
 | @step y u k h1 h2 h3 ih =>
  obtain ⟨e1,e2,e3⟩:=he y hx hm
  have h4:=hI.up_len hx h1
  exact .step (by rw [e1];exact h1) ⟨h2.1,h2.2.1,by rw [e2];exact h2.2.2.1,by rw [e3];exact h2.2.2.2⟩ (ih h4.1 (by omega))
theorem sd_clear {x:Nat} (h:Clear M P D x):sd M P x=false:=by unfold sd;rw [h.1,h.2.2.1];rfl
theorem Inv.spl_clear (h:Inv n V r Z M I P D) {x:Nat} (hx:x<n) (hc:Clear M P D x) (s:Bool):I x=ord s (IL I ((M x).b s)) x (IL I ((M x).b (!s))):=by
 have h1:=h.spl x hx
 rw [sd_clear hc] at h1
 cases s <;> simp [ord] <;> simpa using h1
end
end Sv
namespace Sv
def handN (k:Nd) (t:Bool) (a:Int):Nd:={ k with v:=wr (k.v+a),lo:=wr (k.lo+a),hi:=wr (k.hi+a),a:=wr (k.a+a),t:=k.t != t }
def hand (M:Nat→Nd) (w:Option Nat) (t:Bool) (a:Int):Nat→Nd:=match w with | none=>M | some y=>upd M y (handN (M y) t a)
def swapN (k:Nd):Nd:={ k with b:=fun s=>k.b (s != k.t) }
def doneN (k:Nd):Nd:={ k with t:=false,a:=0 }
def setM (M:Nat→Nd) (x:Nat):Nat→Nd :=
 let M1:=upd M x (swapN (M x))
 let M2:=hand M1 ((M1 x).b false) (M x).t (M x).a
 let M3:=hand M2 ((M1 x).b true) (M x).t (M x).a
 upd M3 x (doneN (M3 x))
def hangs (M:Nat→Nd) (x y:Nat):Prop:=(M x).b false=some y∨(M x).b true=some y
instance (M:Nat→Nd) (x y:Nat):Decidable (hangs M x y):=by unfold hangs;infer_instance
def setP (M:Nat→Nd) (x:Nat) (P:Nat→Bool):Nat→Bool:=fun y=>if hangs M x y then false else P y
def setD (M:Nat→Nd) (x:Nat) (D:Nat→Int):Nat→Int:=fun y=>if hangs M x y then 0 else D y
section
variable {n:Nat} {V:Nat→Int} {r:Nat→List Nat} {Z:Nat→Prop} {M:Nat→Nd} {I:Nat→List Nat} {P:Nat→Bool} {D:Nat→Int}
theorem hangs_of {M:Nat→Nd} {x y:Nat} {s:Bool} (h:(M x).b s=some y):hangs M x y:=by cases s;exact .inl h;exact .inr h
theorem hangs_some {M:Nat→Nd} {x y:Nat} (h:hangs M x y):∃ s,(M x).b s=some y:=by rcases h with h | h;exact ⟨_,h⟩;exact ⟨_,h⟩
theorem hand_self {M:Nat→Nd} {y:Nat} {t:Bool} {a:Int}:hand M (some y) t a y=handN (M y) t a:=by simp [hand,upd]
theorem hand_ne {M:Nat→Nd} {w:Option Nat} {y:Nat} {t:Bool} {a:Int} (h:w≠some y):hand M w t a y=M y:=by
 cases w with
 | none=>rfl
 | some z=>simp only [hand];exact upd_ne _ _ fun e=>h (by rw [e])
theorem setM_x (h:Inv n V r Z M I P D) {x:Nat} (hx:x<n):setM M x x=doneN (swapN (M x)):=by
 have h0:∀ s,(M x).b s≠some x:=fun s e=>h.not_self hx e (h.self hx)
 unfold setM
 simp only [upd_self,swapN]
 rw [hand_ne (h0 _),hand_ne (h0 _),upd_self]
theorem setM_c (h:Inv n V r Z M I P D) {x y:Nat} (hx:x<n) (hy:hangs M x y):setM M x y=handN (M y) (M x).t (M x).a:=by
 obtain ⟨s,hs⟩:=hangs_some hy
 have hne:y≠x:=fun e=>by subst e;exact h.not_self hx hs (h.self hx)
 have h1:∀ s',s'≠s→(M x).b s'≠some y:=fun s' e e2=>by
  have:s' = !s:=by cases s <;> cases s' <;> simp_all
  subst this
  exact h.apart hx s hs e2 rfl
 unfold setM
 simp only [upd_self,swapN]
 rw [upd_ne _ _ hne]
 by_cases c:(false != (M x).t)=s
 ·rw [c,hs,hand_ne (h1 _ (by rw [← c];cases (M x).t <;> simp)),hand_self,upd_ne _ _ hne]
 ·have c2:(true != (M x).t)=s:=by cases s <;> cases e:(M x).t <;> simp_all
  rw [c2,hs,hand_self,hand_ne (h1 _ c),upd_ne _ _ hne]
theorem setM_o {x y:Nat} (hne:y≠x) (hy:¬ hangs M x y):setM M x y=M y:=by
 have h1:∀ s,(M x).b s≠some y:=fun s e=>hy (hangs_of e)
 unfold setM
 simp only [upd_self,swapN]
 rw [upd_ne _ _ hne,hand_ne (h1 _),hand_ne (h1 _),upd_ne _ _ hne]
theorem setM_up (h:Inv n V r Z M I P D) {x:Nat} (hx:x<n) (y:Nat):(setM M x y).up=(M y).up:=by
 by_cases c:y=x
 ·subst c;rw [setM_x h hx];rfl
 ·by_cases c2:hangs M x y
  ·rw [setM_c h hx c2];rfl
  ·rw [setM_o c c2]
theorem setM_inv (h:Inv n V r Z M I P D) {x:Nat} (hx:x<n) (hP:P x=false) (hD:D x=0):Inv n V r Z (setM M x) I (setP M x P) (setD M x D):=by
 have hxx:¬ hangs M x x:=fun c=>by obtain ⟨s,hs⟩:=hangs_some c;exact h.not_self hx hs (h.self hx)
 have PX:setP M x P x=false:=by simp only [setP,if_neg hxx];exact hP
 have DX:setD M x D x=0:=by simp only [setD,if_neg hxx];exact hD
 have PC:∀ y,hangs M x y→setP M x P y=false:=fun y hy=>by simp only [setP,if_pos hy]
 have DC:∀ y,hangs M x y→setD M x D y=0:=fun y hy=>by simp only [setD,if_pos hy]
 have PO:∀ y,¬ hangs M x y→setP M x P y=P y:=fun y hy=>by simp only [setP,if_neg hy]
 have DO:∀ y,¬ hangs M x y→setD M x D y=D y:=fun y hy=>by simp only [setD,if_neg hy]
 have hsx:sd M P x=(M x).t:=by unfold sd;rw [hP];simp
 have hsx':sd (setM M x) (setP M x P) x=false:=by unfold sd;rw [PX,setM_x h hx];rfl
 have CF:∀ y,hangs M x y→y<n∧(M y).up=some x∧P y=(M x).t∧D y=wr (M x).a∧y≠x:=fun y hy=>by
  obtain ⟨s,hs⟩:=hangs_some hy
  obtain ⟨h1,h2,h3,h4⟩:=h.ch x s y hx hs
  refine ⟨h1,h2,by rw [h3,hsx],by rw [h4,hD,Int.zero_add],fun e=>hxx (by rw [← e];rw [e] at hy ⊢;exact hy)⟩
 have hsd:∀ y,y≠x→sd (setM M x) (setP M x P) y=sd M P y:=fun y hne=>by
  by_cases c:hangs M x y
  ·unfold sd;rw [PC y c,setM_c h hx c,(CF y c).2.2.1];simp only [handN];cases (M y).t <;> cases (M x).t <;> rfl
  ·unfold sd;rw [PO y c,setM_o hne c]
 have hb:∀ y,y≠x→(setM M x y).b=(M y).b:=fun y hne=>by
  by_cases c:hangs M x y
  ·rw [setM_c h hx c];rfl
  ·rw [setM_o hne c]
 have hbx:∀ s,(setM M x x).b s=(M x).b (s != (M x).t):=fun s=>by rw [setM_x h hx];rfl
 have hwD:∀ y,y≠x→wr (setD M x D y+(setM M x y).a)=wr (D y+(M y).a):=fun y hne=>by
  by_cases c:hangs M x y
  ·rw [DC y c,setM_c h hx c,(CF y c).2.2.2.1]
   simp only [handN,wr_eq]
   omega
  ·rw [DO y c,setM_o hne c]
 refine ⟨fun y s z hy hz=>?_,fun y u hy hu=>?_,fun y hy=>?_,fun y hy ht=>?_,h.nd,h.lt,fun y hy=>?_,fun y hy hz=>?_,fun y hy hz=>?_,fun y hy hz=>?_,fun y hy ht=>?_,h.bnd⟩
 ·by_cases c:y=x
  ·subst c
   rw [hbx] at hz
   have hh:=hangs_of hz
   obtain ⟨h1,h2,h3,h4,h5⟩:=CF z hh
   refine ⟨h1,by rw [setM_up h hx];exact h2,by rw [PC z hh,hsx'],?_⟩
   rw [DC z hh,DX,setM_x h hx];exact wr_zero.symm
  ·rw [hb y c] at hz
   obtain ⟨h1,h2,h3,h4⟩:=h.ch y s z hy hz
   have hnz:¬ hangs M x z:=fun cc=>by have:=(CF z cc).2.1;rw [h2] at this;cases this;exact c rfl
   refine ⟨h1,by rw [setM_up h hx];exact h2,by rw [PO z hnz,hsd y c,h3],by rw [DO z hnz,h4,hwD y c]⟩
 ·rw [setM_up h hx] at hu
  obtain ⟨h1,s,h2⟩:=h.par y u hy hu
  refine ⟨h1,?_⟩
  by_cases c:u=x
  ·subst c
   refine ⟨s != (M u).t,?_⟩
   rw [hbx,← h2]
   cases s <;> cases (M u).t <;> rfl
  ·exact ⟨s,by rw [hb u c];exact h2⟩
 ·by_cases c:y=x
  ·subst c
   rw [hsx',hbx,hbx,h.spl y hy,hsx]
   cases (M y).t <;> rfl
  ·rw [hsd y c,hb y c];exact h.spl y hy
 ·rw [setM_up h hx] at ht
  have hn:¬ hangs M x y:=fun c=>by have:=(CF y c).2.1;rw [ht] at this;cases this
  rw [PO y hn,DO y hn];exact h.top y hy ht
 ·by_cases c:y=x
  ·subst c;rw [setM_x h hx,DX];simp only [doneN,swapN];have:=h.val y hy;rw [hD] at this;exact this
  ·by_cases c2:hangs M x y
   ·rw [setM_c h hx c2,DC y c2]
    have h1:=h.val y hy
    rw [(CF y c2).2.2.2.1] at h1
    simp only [handN]
    rw [h1];simp only [wr_eq];omega
   ·rw [setM_o c c2,DO y c2];exact h.val y hy
 ·obtain ⟨m,h1,h2⟩:=h.mn y hy hz
  refine ⟨m,h1,?_⟩
  by_cases c:y=x
  ·subst c;rw [setM_x h hx,DX];simp only [doneN,swapN];rw [hD] at h2;exact h2
  ·by_cases c2:hangs M x y
   ·rw [setM_c h hx c2,DC y c2]
    rw [(CF y c2).2.2.2.1] at h2
    simp only [handN]
    rw [h2];simp only [wr_eq];omega
   ·rw [setM_o c c2,DO y c2];exact h2
 ·obtain ⟨m,h1,h2⟩:=h.mx y hy hz
  refine ⟨m,h1,?_⟩
  by_cases c:y=x
  ·subst c;rw [setM_x h hx,DX];simp only [doneN,swapN];rw [hD] at h2;exact h2
  ·by_cases c2:hangs M x y
   ·rw [setM_c h hx c2,DC y c2]
    rw [(CF y c2).2.2.2.1] at h2
    simp only [handN]
    rw [h2];simp only [wr_eq];omega
   ·rw [setM_o c c2,DO y c2];exact h2
 ·have h1:=h.cnt y hy hz
  by_cases c:y=x
  ·subst c;rw [setM_x h hx];exact h1
  ·by_cases c2:hangs M x y
   ·rw [setM_c h hx c2];exact h1
   ·rw [setM_o c c2];exact h1
 ·rw [setM_up h hx] at ht;exact h.row y hy ht
theorem setM_clear (h:Inv n V r Z M I P D) {x:Nat} (hx:x<n) (hP:P x=false) (hD:D x=0):Clear (setM M x) (setP M x P) (setD M x D) x:=by
 have hxx:¬ hangs M x x:=fun c=>by obtain ⟨s,hs⟩:=hangs_some c;exact h.not_self hx hs (h.self hx)
 exact ⟨by simp only [setP,if_neg hxx];exact hP,by simp only [setD,if_neg hxx];exact hD,by rw [setM_x h hx];rfl,by rw [setM_x h hx];rfl⟩
theorem setM_above (h:Inv n V r Z M I P D) {x y:Nat} (hx:x<n) (hl:(I x).length<(I y).length) (hc:Clear M P D y):Clear (setM M x) (setP M x P) (setD M x D) y:=by
 have hne:y≠x:=fun e=>by subst e;omega
 have hn:¬ hangs M x y:=fun c=>by obtain ⟨s,hs⟩:=hangs_some c;have:=h.below hx hs;omega
 exact ⟨by simp only [setP,if_neg hn];exact hc.1,by simp only [setD,if_neg hn];exact hc.2.1,by rw [setM_o hne hn];exact hc.2.2.1,by rw [setM_o hne hn];exact hc.2.2.2⟩
theorem Cl.sett {y k m:Nat} (h:Cl M P D y k) (hI:Inv n V r Z M I P D) {x:Nat} (hx:x<n) (hy:y<n) (hl:(I x).length<(I y).length):Cl (setM M x) (setP M x P) (setD M x D) y k:=by
 induction h with
 | @top z h1 h2=>exact .top (by rw [setM_up hI hx];exact h1) (setM_above hI hx hl h2)
 | @step z u k h1 h2 h3 ih =>
  have h4:=hI.up_len hy h1
  exact .step (by rw [setM_up hI hx];exact h1) (setM_above hI hx hl h2) (ih h4.1 (by omega))
theorem clear_child (h:Inv n V r Z M I P D) {x y:Nat} {s:Bool} (hx:x<n) (hc:Clear M P D x) (hy:(M x).b s=some y):P y=false∧D y=0:=by
 obtain ⟨h1,h2,h3,h4⟩:=h.ch x s y hx hy
 rw [h3,sd_clear hc,h4,hc.2.1,hc.2.2.2]
 exact ⟨rfl,wr_zero⟩
end
end Sv
namespace Sv
def mnO (M:Nat→Nd) (a:Int):Option Nat→Int | none=>a | some y=>min a (M y).lo
def mxO (M:Nat→Nd) (a:Int):Option Nat→Int | none=>a | some y=>max a (M y).hi
def cO (M:Nat→Nd) (a:Nat):Option Nat→Nat | none=>a | some y=>a+(M y).c
def refN (M:Nat→Nd) (k:Nd):Nd:={ k with lo:=mnO M (mnO M k.v (k.b false)) (k.b true),hi:=mxO M (mxO M k.v (k.b false)) (k.b true),c:=cO M (cO M 1 (k.b false)) (k.b true) }
def refM (M:Nat→Nd) (x:Nat):Nat→Nd:=upd M x (refN M (M x))
section
variable {n:Nat} {V:Nat→Int} {r:Nat→List Nat} {Z:Nat→Prop} {M:Nat→Nd} {I:Nat→List Nat} {P:Nat→Bool} {D:Nat→Int}
theorem wr_id {x:Int} (h:-9223372036854775808≤x∧x≤9223372036854775807):wr x=x:=by rw [wr_eq];omega
theorem Inv.mem (h:Inv n V r Z M I P D) {x:Nat} (hx:x<n) (y:Nat):y∈I x↔y=x∨y∈IL I ((M x).b false)∨y∈IL I ((M x).b true):=by
 rw [h.spl x hx]
 cases sd M P x <;> simp <;> grind
theorem min_bnd {l:List Nat} {m:Int} (h:IsMin V l m) (hl:∀ y∈l,y<n) (hb:∀ x,x<n→-4611686018427387904≤V x∧V x≤4611686018427387904):-4611686018427387904≤m∧m≤4611686018427387904:=by
 obtain ⟨⟨y,hy,rfl⟩,_⟩:=h
 exact hb y (hl y hy)
theorem max_bnd {l:List Nat} {m:Int} (h:IsMax V l m) (hl:∀ y∈l,y<n) (hb:∀ x,x<n→-4611686018427387904≤V x∧V x≤4611686018427387904):-4611686018427387904≤m∧m≤4611686018427387904:=by
 obtain ⟨⟨y,hy,rfl⟩,_⟩:=h
 exact hb y (hl y hy)
theorem Inv.lo_at (h:Inv n V r Z M I P D) {x:Nat} (hx:x<n) (hz:¬ Z x) (hD:D x=0):IsMin V (I x) (M x).lo:=by
 obtain ⟨m,h1,h2⟩:=h.mn x hx hz
 rw [hD,Int.sub_zero,wr_id (by have:=min_bnd h1 (h.lt x hx) h.bnd;omega)] at h2
 rw [h2];exact h1
theorem Inv.hi_at (h:Inv n V r Z M I P D) {x:Nat} (hx:x<n) (hz:¬ Z x) (hD:D x=0):IsMax V (I x) (M x).hi:=by
 obtain ⟨m,h1,h2⟩:=h.mx x hx hz
 rw [hD,Int.sub_zero,wr_id (by have:=max_bnd h1 (h.lt x hx) h.bnd;omega)] at h2
 rw [h2];exact h1
theorem Inv.v_at (h:Inv n V r Z M I P D) {x:Nat} (hx:x<n) (hD:D x=0):(M x).v=V x:=by
 rw [h.val x hx,hD,Int.sub_zero,wr_id (by have:=h.bnd x hx;omega)]
theorem min_add {l l2:List Nat} {a:Int} {w:Option Nat} (h1:IsMin V l a) (h2:∀ y,w=some y→IsMin V (I y) (M y).lo) (h3:∀ y,y∈l2↔y∈l∨y∈IL I w):IsMin V l2 (mnO M a w):=by
 cases w with
 | none =>
  obtain ⟨⟨y,hy,e⟩,g⟩:=h1
  exact ⟨⟨y,(h3 y).2 (.inl hy),e⟩,fun z hz=>by rcases (h3 z).1 hz with c | c;exact g z c;simp [IL] at c⟩
 | some u =>
  obtain ⟨⟨y,hy,e⟩,g⟩:=h1
  obtain ⟨⟨y',hy',e'⟩,g'⟩:=h2 u rfl
  simp only [mnO]
  refine ⟨?_,fun z hz=>?_⟩
  ·by_cases c:a≤(M u).lo
   ·exact ⟨y,(h3 y).2 (.inl hy),by omega⟩
   ·exact ⟨y',(h3 y').2 (.inr hy'),by omega⟩
  ·rcases (h3 z).1 hz with c | c
   ·have:=g z c;omega
   ·have:=g' z c;omega
theorem max_add {l l2:List Nat} {a:Int} {w:Option Nat} (h1:IsMax V l a) (h2:∀ y,w=some y→IsMax V (I y) (M y).hi) (h3:∀ y,y∈l2↔y∈l∨y∈IL I w):IsMax V l2 (mxO M a w):=by
 cases w with
 | none =>
  obtain ⟨⟨y,hy,e⟩,g⟩:=h1
  exact ⟨⟨y,(h3 y).2 (.inl hy),e⟩,fun z hz=>by rcases (h3 z).1 hz with c | c;exact g z c;simp [IL] at c⟩
 | some u =>
  obtain ⟨⟨y,hy,e⟩,g⟩:=h1
  obtain ⟨⟨y',hy',e'⟩,g'⟩:=h2 u rfl
  simp only [mxO]
  refine ⟨?_,fun z hz=>?_⟩
  ·by_cases c:(M u).hi≤a
   ·exact ⟨y,(h3 y).2 (.inl hy),by omega⟩
   ·exact ⟨y',(h3 y').2 (.inr hy'),by omega⟩
  ·rcases (h3 z).1 hz with c | c
   ·have:=g z c;omega
   ·have:=g' z c;omega
theorem refM_other {x y:Nat} (h:y≠x):refM M x y=M y:=upd_ne _ _ h
theorem refM_self (x:Nat):refM M x x=refN M (M x):=upd_self _ _ _
theorem refM_same (x y:Nat):(refM M x y).b=(M y).b∧(refM M x y).up=(M y).up∧(refM M x y).t=(M y).t∧(refM M x y).a=(M y).a∧(refM M x y).v=(M y).v:=by
 by_cases c:y=x
 ·subst c;rw [refM_self];exact ⟨rfl,rfl,rfl,rfl,rfl⟩
 ·rw [refM_other c];exact ⟨rfl,rfl,rfl,rfl,rfl⟩
theorem refM_inv (h:Inv n V r Z M I P D) {x:Nat} (hx:x<n) (hD:D x=0) (ha:(M x).a=0) (hZ:∀ s y,(M x).b s=some y→¬ Z y):Inv n V r (fun y=>Z y∧y≠x) (refM M x) I P D:=by
 have hs:∀ y,sd (refM M x) P y=sd M P y:=fun y=>by unfold sd;rw [(refM_same x y).2.2.1]
 have hc:∀ s y,(M x).b s=some y→y<n∧D y=0∧¬ Z y:=fun s y hy=>by
  obtain ⟨h1,_,_,h4⟩:=h.ch x s y hx hy
  refine ⟨h1,by rw [h4,hD,ha];exact wr_zero,hZ s y hy⟩
 have hmem:=h.mem hx
 refine ⟨fun y s z hy hz=>?_,fun y u hy hu=>?_,fun y hy=>?_,fun y hy ht=>?_,h.nd,h.lt,fun y hy=>?_,fun y hy hz=>?_,fun y hy hz=>?_,fun y hy hz=>?_,fun y hy ht=>?_,h.bnd⟩
 ·obtain ⟨e1,_,_,e4,_⟩:=refM_same (M:=M) x y
  rw [e1] at hz
  rw [hs,e4,(refM_same x z).2.1]
  exact h.ch y s z hy hz
 ·rw [(refM_same x y).2.1] at hu
  rw [(refM_same x u).1]
  exact h.par y u hy hu
 ·rw [hs,(refM_same x y).1];exact h.spl y hy
 ·rw [(refM_same x y).2.1] at ht;exact h.top y hy ht
 ·rw [(refM_same x y).2.2.2.2];exact h.val y hy
 ·by_cases c:y=x
  ·subst c
   rw [refM_self,hD]
   have h0:IsMin V [y] (M y).v:=by rw [h.v_at hy hD];exact ⟨⟨y,by simp,rfl⟩,by simp⟩
   have h1:IsMin V (y :: IL I ((M y).b false)) (mnO M (M y).v ((M y).b false)):=min_add (I:=I) h0 (fun z hz2=>by obtain ⟨g1,g2,g3⟩:=hc _ z hz2;exact h.lo_at g1 g3 g2) (by simp)
   have h2:IsMin V (I y) (mnO M (mnO M (M y).v ((M y).b false)) ((M y).b true)):=min_add (I:=I) h1 (fun z hz2=>by obtain ⟨g1,g2,g3⟩:=hc _ z hz2;exact h.lo_at g1 g3 g2) (fun z=>by rw [hmem];simp only [List.mem_cons];grind)
   exact ⟨_,h2,by rw [Int.sub_zero,wr_id (by have:=min_bnd h2 (h.lt y hy) h.bnd;omega)];rfl⟩
  ·rw [refM_other c];exact h.mn y hy fun z=>hz ⟨z,c⟩
 ·by_cases c:y=x
  ·subst c
   rw [refM_self,hD]
   have h0:IsMax V [y] (M y).v:=by rw [h.v_at hy hD];exact ⟨⟨y,by simp,rfl⟩,by simp⟩
   have h1:IsMax V (y :: IL I ((M y).b false)) (mxO M (M y).v ((M y).b false)):=max_add (I:=I) h0 (fun z hz2=>by obtain ⟨g1,g2,g3⟩:=hc _ z hz2;exact h.hi_at g1 g3 g2) (by simp)
   have h2:IsMax V (I y) (mxO M (mxO M (M y).v ((M y).b false)) ((M y).b true)):=max_add (I:=I) h1 (fun z hz2=>by obtain ⟨g1,g2,g3⟩:=hc _ z hz2;exact h.hi_at g1 g3 g2) (fun z=>by rw [hmem];simp only [List.mem_cons];grind)
   exact ⟨_,h2,by rw [Int.sub_zero,wr_id (by have:=max_bnd h2 (h.lt y hy) h.bnd;omega)];rfl⟩
  ·rw [refM_other c];exact h.mx y hy fun z=>hz ⟨z,c⟩
 ·by_cases c:y=x
  ·subst c
   rw [refM_self,h.two hy false]
   have g:∀ s a,cO M a ((M y).b s)=a+(IL I ((M y).b s)).length:=fun s a=>by
    cases e:(M y).b s with
    | none=>rfl
    | some z=>simp only [cO,IL];rw [h.cnt z (hc s z e).1 (hc s z e).2.2]
   simp only [refN,g,Bool.not_false]
   omega
  ·rw [refM_other c];exact h.cnt y hy fun z=>hz ⟨z,c⟩
 ·rw [(refM_same x y).2.1] at ht;exact h.row y hy ht
def rotL (M:Nat→Nd) (x p:Nat) (s sp:Bool):Nat→Nd:=fun y =>
 if y=x then { M x with up:=(M p).up,b:=setb (M x).b (!s) (some p) }
 else if y=p then { M p with up:=some x,b:=setb (M p).b s ((M x).b (!s)) }
 else if (M x).b (!s)=some y then { M y with up:=some p }
 else if (M p).up=some y then { M y with b:=setb (M y).b sp (some x) }
 else M y
def rotI (M:Nat→Nd) (I:Nat→List Nat) (x p:Nat) (s:Bool):Nat→List Nat:=fun y =>
 if y=x then I p else if y=p then ord s (IL I ((M x).b (!s))) p (IL I ((M p).b (!s))) else I y
theorem rotL_same (M:Nat→Nd) (x p:Nat) (s sp:Bool) (y:Nat):(rotL M x p s sp y).t=(M y).t∧(rotL M x p s sp y).a=(M y).a∧(rotL M x p s sp y).v=(M y).v∧(rotL M x p s sp y).lo=(M y).lo∧(rotL M x p s sp y).hi=(M y).hi∧(rotL M x p s sp y).c=(M y).c:=by
 unfold rotL
 by_cases c1:y=x
 ·subst c1;simp
 ·rw [if_neg c1]
  by_cases c2:y=p
  ·subst c2;simp
  ·rw [if_neg c2]
   split <;> (try split) <;> simp
theorem setb_self (b:Bool→Option Nat) (s:Bool) (w:Option Nat):setb b s w s=w:=by simp [setb]
theorem setb_ne (b:Bool→Option Nat) {s s':Bool} (w:Option Nat) (h:s'≠s):setb b s w s' = b s':=by simp [setb,h]
end
end Sv
namespace Sv
section
variable {n:Nat} {V:Nat→Int} {r:Nat→List Nat} {Z:Nat→Prop} {M:Nat→Nd} {I:Nat→List Nat} {P:Nat→Bool} {D:Nat→Int}
def sideM (M:Nat→Nd) (x:Nat):Bool:=match (M x).up with | none=>false | some u=>decide ((M u).b false≠some x)
theorem Inv.side_b (h:Inv n V r Z M I P D) {x u:Nat} (hx:x<n) (hu:(M x).up=some u):(M u).b (sideM M x)=some x:=by
 obtain ⟨h1,s,h2⟩:=h.par x u hx hu
 unfold sideM
 rw [hu]
 by_cases c:(M u).b false=some x
 ·simp [c]
 ·cases s with
  | false=>exact absurd h2 c
  | true=>simp [c,h2]
theorem Inv.side_uniq (h:Inv n V r Z M I P D) {x u:Nat} {s s':Bool} (hu:u<n) (h1:(M u).b s=some x) (h2:(M u).b s' = some x):s=s':=by
 by_cases c:s' = s
 ·exact c.symm
 ·have:s' = !s:=by cases s <;> cases s' <;> simp_all
  subst this
  exact absurd rfl (h.apart hu s h1 h2)
theorem ord_two (s:Bool) (A B C:List Nat) (x p:Nat):ord s (ord s A x B) p C=ord s A x (ord s B p C):=by cases s <;> simp [ord]
theorem ord_len (s:Bool) (A B:List Nat) (x:Nat):(ord s A x B).length=A.length+1+B.length:=by cases s <;> simp [ord] <;> omega
structure RF (n:Nat) (M:Nat→Nd) (I:Nat→List Nat) (x p:Nat) (s sp:Bool):Prop where
 xp:x≠p
 rx:rotL M x p s sp x = { M x with up:=(M p).up,b:=setb (M x).b (!s) (some p) }
 rp:rotL M x p s sp p = { M p with up:=some x,b:=setb (M p).b s ((M x).b (!s)) }
 ri:∀ m,(M x).b (!s)=some m→m<n∧m≠x∧m≠p∧(M p).up≠some m∧rotL M x p s sp m = { M m with up:=some p }
 rg:∀ g,(M p).up=some g→g<n∧g≠x∧g≠p∧(M x).b (!s)≠some g∧rotL M x p s sp g = { M g with b:=setb (M g).b sp (some x) }
 ro:∀ y,y≠x→y≠p→(M x).b (!s)≠some y→(M p).up≠some y→rotL M x p s sp y=M y
theorem rot_facts (h:Inv n V r Z M I P D) {x p:Nat} {s sp:Bool} (hx:x<n) (hp:(M x).up=some p) (hs:(M p).b s=some x):RF n M I x p s sp:=by
 obtain ⟨hpn,hpl⟩:=h.up_len hx hp
 have xp:x≠p:=fun e=>by subst e;omega
 have hm:∀ m,(M x).b (!s)=some m→m<n∧m≠x∧m≠p∧(M p).up≠some m:=fun m hm=>by
  have h1:=h.below hx hm
  refine ⟨(h.ch x _ m hx hm).1,fun e=>by subst e;omega,fun e=>by subst e;omega,fun e=>?_⟩
  have:=(h.up_len hpn e).2
  omega
 have hg:∀ g,(M p).up=some g→g<n∧g≠x∧g≠p∧(M x).b (!s)≠some g:=fun g e=>by
  have h1:=h.up_len hpn e
  refine ⟨h1.1,fun e=>by subst e;omega,fun e=>by subst e;omega,fun e2=>?_⟩
  have:=h.below hx e2
  omega
 refine ⟨xp,by simp [rotL],by simp [rotL,Ne.symm xp],fun m e=>?_,fun g e=>?_,fun y h1 h2 h3 h4=>by simp [rotL,h1,h2,h3,h4]⟩
 ·obtain ⟨h1,h2,h3,h4⟩:=hm m e
  exact ⟨h1,h2,h3,h4,by simp [rotL,h2,h3,e]⟩
 ·obtain ⟨h1,h2,h3,h4⟩:=hg g e
  exact ⟨h1,h2,h3,h4,by simp [rotL,h2,h3,h4,e]⟩
theorem rotL_inv (h:Inv n V r (fun _=>False) M I P D) {x p:Nat} {s sp:Bool} (hx:x<n) (hp:(M x).up=some p) (hs:(M p).b s=some x) (hsp:∀ g,(M p).up=some g→(M g).b sp=some p) (hcx:Clear M P D x) (hcp:Clear M P D p) :
  Inv n V r (fun y=>y=x∨y=p) (rotL M x p s sp) (rotI M I x p s) P D:=by
 have RR:=rot_facts (sp:=sp) h hx hp hs
 obtain ⟨hpn,hpl⟩:=h.up_len hx hp
 have hsd:∀ y,sd (rotL M x p s sp) P y=sd M P y:=fun y=>by unfold sd;rw [(rotL_same M x p s sp y).1]
 have ha:∀ y,(rotL M x p s sp y).a=(M y).a:=fun y=>(rotL_same M x p s sp y).2.1
 have sx:=sd_clear hcx
 have sp0:=sd_clear hcp
 have ex:=h.spl_clear hx hcx s
 have ep:=h.spl_clear hpn hcp s
 rw [hs,show IL I (some x)=I x from rfl,ex,ord_two] at ep
 have I1:rotI M I x p s x=I p:=by simp [rotI]
 have I2:rotI M I x p s p=ord s (IL I ((M x).b (!s))) p (IL I ((M p).b (!s))):=by simp [rotI,Ne.symm RR.xp]
 have I3:∀ y,y≠x→y≠p→rotI M I x p s y=I y:=fun y h1 h2=>by simp [rotI,h1,h2]
 have IL3:∀ w,w≠some x→w≠some p→IL (rotI M I x p s) w=IL I w:=fun w h1 h2=>by
  cases w with
  | none=>rfl
  | some y=>exact I3 y (fun e=>h1 (by rw [e])) (fun e=>h2 (by rw [e]))
 have hxs:∀ s',(M x).b s'≠some x∧(M x).b s'≠some p:=fun s'=>⟨fun e=>by have:=h.below hx e;omega,fun e=>by have:=h.below hx e;omega⟩
 have hps:(M p).b (!s)≠some x∧∀ s',(M p).b s'≠some p:=⟨fun e=>h.apart hpn s hs e rfl,fun s' e=>by have:=h.below hpn e;omega⟩
 have hup:∀ y,y<n→(rotL M x p s sp y).up=if y=x then (M p).up else if y=p then some x else if (M x).b (!s)=some y then some p else (M y).up:=fun y hy=>by
  unfold rotL
  split
  ·rfl
  ·split
   ·rfl
   ·split
    ·rfl
    ·split <;> rfl
 have hb:∀ y s',(rotL M x p s sp y).b s' = if y=x then setb (M x).b (!s) (some p) s' else if y=p then setb (M p).b s ((M x).b (!s)) s' else if (M p).up=some y then setb (M y).b sp (some x) s' else (M y).b s':=fun y s'=>by
  unfold rotL
  by_cases c1:y=x
  ·simp [c1]
  ·by_cases c2:y=p
   ·subst c2;simp [c1]
   ·simp only [c1,c2,if_false]
    by_cases c3:(M x).b (!s)=some y
    ·rw [if_pos c3,if_neg (RR.ri y c3).2.2.2.1]
    ·rw [if_neg c3]
     split <;> rfl
 have boo:∀ s',s' = s∨s' = !s:=fun s'=>by cases s <;> cases s' <;> simp
 refine ⟨fun y s' z hy hz=>?_,fun y u hy hu=>?_,fun y hy=>?_,fun y hy ht=>?_,fun y hy=>?_,fun y hy=>?_,fun y hy=>?_,fun y hy hz=>?_,fun y hy hz=>?_,fun y hy hz=>?_,fun y hy ht=>?_,h.bnd⟩
 ·rw [hb] at hz
  rw [hsd,ha]
  by_cases c1:y=x
  ·subst c1
   rw [if_pos rfl] at hz
   rcases boo s' with e | e
   ·subst e
    rw [setb_ne _ _ (by cases s' <;> simp)] at hz
    obtain ⟨g1,g2,g3,g4⟩:=h.ch y s' z hy hz
    refine ⟨g1,?_,g3,g4⟩
    rw [hup z g1,if_neg (fun e=>(hxs s').1 (by rw [hz,e])),if_neg (fun e=>(hxs s').2 (by rw [hz,e])),if_neg (fun e=>h.apart hy s' hz e rfl)]
    exact g2
   ·subst e
    rw [setb_self] at hz
    cases hz
    refine ⟨hpn,by rw [hup p hpn,if_neg (Ne.symm RR.xp),if_pos rfl],by rw [hcp.1,sx],by rw [hcp.2.1,hcx.2.1,hcx.2.2.2];exact wr_zero.symm⟩
  ·rw [if_neg c1] at hz
   by_cases c2:y=p
   ·subst c2
    rw [if_pos rfl] at hz
    rcases boo s' with e | e
    ·subst e
     rw [setb_self] at hz
     obtain ⟨g1,g2,g3,g4⟩:=h.ch x _ z hx hz
     obtain ⟨m1,m2,m3,m4,m5⟩:=RR.ri z hz
     refine ⟨g1,by rw [m5],by rw [g3,sx,sp0],by rw [g4,hcx.2.1,hcx.2.2.2,hcp.2.1,hcp.2.2.2]⟩
    ·subst e
     rw [setb_ne _ _ (by cases s <;> simp)] at hz
     obtain ⟨g1,g2,g3,g4⟩:=h.ch y _ z hy hz
     refine ⟨g1,?_,g3,g4⟩
     rw [hup z g1,if_neg (fun e=>hps.1 (by rw [hz,e])),if_neg (fun e=>hps.2 _ (by rw [hz,e])),if_neg (fun e=>by have:=(h.ch x _ z hx e).2.1;rw [g2] at this;cases this;exact c1 rfl)]
     exact g2
   ·rw [if_neg c2] at hz
    by_cases c3:(M p).up=some y∧s' = sp
    ·obtain ⟨c3,rfl⟩:=c3
     rw [if_pos c3,setb_self] at hz
     cases hz
     obtain ⟨g1,g2,g3,g4⟩:=h.ch y _ p hy (hsp y c3)
     exact ⟨hx,by rw [hup x hx,if_pos rfl];exact c3,by rw [hcx.1,← hcp.1,g3],by rw [hcx.2.1,← hcp.2.1,g4]⟩
    ·have hz':(M y).b s' = some z:=by
      split at hz
      ·rename_i c4
       rw [setb_ne _ _ (fun e=>c3 ⟨c4,e⟩)] at hz
       exact hz
      ·exact hz
     obtain ⟨g1,g2,g3,g4⟩:=h.ch y s' z hy hz'
     refine ⟨g1,?_,g3,g4⟩
     rw [hup z g1,if_neg (fun e=>by subst e;rw [hp] at g2;cases g2;exact c2 rfl),if_neg (fun e=>by
      subst e
      exact c3 ⟨g2,h.side_uniq hy hz' (hsp y g2)⟩),if_neg (fun e=>by have:=(h.ch x _ z hx e).2.1;rw [g2] at this;cases this;exact c1 rfl)]
     exact g2
 ·rw [hup y hy] at hu
  by_cases c1:y=x
  ·subst c1
   rw [if_pos rfl] at hu
   obtain ⟨g1,g2,g3,g4,g5⟩:=RR.rg u hu
   exact ⟨g1,sp,by rw [g5];exact setb_self _ _ _⟩
  ·rw [if_neg c1] at hu
   by_cases c2:y=p
   ·subst c2
    rw [if_pos rfl] at hu
    cases hu
    exact ⟨hx,!s,by rw [RR.rx];exact setb_self _ _ _⟩
   ·rw [if_neg c2] at hu
    by_cases c3:(M x).b (!s)=some y
    ·rw [if_pos c3] at hu
     cases hu
     exact ⟨hpn,s,by rw [RR.rp];exact (setb_self _ _ _).trans c3⟩
    ·rw [if_neg c3] at hu
     obtain ⟨g1,s',g2⟩:=h.par y u hy hu
     refine ⟨g1,s',?_⟩
     rw [hb]
     by_cases d1:u=x
     ·subst d1
      rw [if_pos rfl,setb_ne _ _ (fun e=>c3 (by rw [← e];exact g2))]
      exact g2
     ·rw [if_neg d1]
      by_cases d2:u=p
      ·subst d2
       rw [if_pos rfl,setb_ne _ _ (fun e=>by subst e;rw [hs] at g2;cases g2;exact c1 rfl)]
       exact g2
      ·rw [if_neg d2]
       split
       ·rename_i d3
        rw [setb_ne _ _ (fun e=>by subst e;rw [hsp u d3] at g2;cases g2;exact c2 rfl)]
        exact g2
       ·exact g2
 ·rw [hsd]
  have hq:∀ (y:Nat) (b:Bool→Option Nat),ord s (IL (rotI M I x p s) (b s)) y (IL (rotI M I x p s) (b (!s)))=IL (rotI M I x p s) (b false) ++ y :: IL (rotI M I x p s) (b true):=fun y b=>by cases s <;> simp [ord]
  by_cases c1:y=x
  ·subst c1
   rw [I1,sx,Bool.not_false,← hq,RR.rx]
   simp only
   rw [setb_self,setb_ne _ _ (by cases s <;> simp),IL3 _ (hxs s).1 (hxs s).2]
   rw [show IL (rotI M I y p s) (some p)=rotI M I y p s p from rfl,I2];exact ep
  ·by_cases c2:y=p
   ·subst c2
    rw [I2,sp0,Bool.not_false,← hq,RR.rp]
    simp only
    rw [setb_self,setb_ne _ _ (by cases s <;> simp),IL3 _ (hxs _).1 (hxs _).2,IL3 _ hps.1 (hps.2 _)]
   ·rw [I3 y c1 c2,h.spl y hy]
    by_cases c3:(M p).up=some y
    ·have e2:(rotL M x p s sp y).b=setb (M y).b sp (some x):=by funext s';rw [hb,if_neg c1,if_neg c2,if_pos c3]
     rw [e2]
     have g0:=hsp y c3
     have g1:∀ s',s'≠sp→(M y).b s'≠some x∧(M y).b s'≠some p:=fun s' e=>⟨fun e3=>by have:=(h.ch y s' x hy e3).2.1;rw [hp] at this;cases this;exact c2 rfl,fun e3=>e (h.side_uniq hy e3 g0)⟩
     have g2:IL (rotI M I x p s) (setb (M y).b sp (some x) sp)=IL I ((M y).b sp):=by rw [setb_self,g0];exact I1
     have g3:∀ s',s'≠sp→IL (rotI M I x p s) (setb (M y).b sp (some x) s')=IL I ((M y).b s'):=fun s' e=>by rw [setb_ne _ _ e];exact IL3 _ (g1 s' e).1 (g1 s' e).2
     have g4:∀ s',IL (rotI M I x p s) (setb (M y).b sp (some x) s')=IL I ((M y).b s'):=fun s'=>by
      by_cases e:s' = sp
      ·rw [e];exact g2
      ·exact g3 s' e
     rw [g4,g4]
    ·have e2:(rotL M x p s sp y).b=(M y).b:=by funext s';rw [hb,if_neg c1,if_neg c2,if_neg c3]
     rw [e2]
     have g1:∀ s',(M y).b s'≠some x∧(M y).b s'≠some p:=fun s'=>⟨fun e3=>by have:=(h.ch y s' x hy e3).2.1;rw [hp] at this;cases this;exact c2 rfl,fun e3=>by have:=(h.ch y s' p hy e3).2.1;exact c3 this⟩
     rw [IL3 _ (g1 _).1 (g1 _).2,IL3 _ (g1 _).1 (g1 _).2]
 ·rw [hup y hy] at ht
  by_cases c1:y=x
  ·subst c1;exact ⟨hcx.1,hcx.2.1⟩
  ·rw [if_neg c1] at ht
   by_cases c2:y=p
   ·rw [if_pos c2] at ht;cases ht
   ·rw [if_neg c2] at ht
    split at ht
    ·cases ht
    ·exact h.top y hy ht
 ·by_cases c1:y=x
  ·subst c1;rw [I1];exact h.nd p hpn
  ·by_cases c2:y=p
   ·subst c2
    rw [I2]
    have g1:=h.nd y hpn
    rw [ep] at g1
    cases s
    ·simp only [ord] at g1 ⊢;exact ((List.nodup_append.1 g1).2.1).of_cons
    ·simp only [ord,if_true] at g1 ⊢
     exact (List.nodup_append.1 g1).1
   ·rw [I3 y c1 c2];exact h.nd y hy
 ·by_cases c1:y=x
  ·subst c1;rw [I1];exact h.lt p hpn
  ·by_cases c2:y=p
   ·subst c2
    rw [I2]
    intro z hz
    apply h.lt y hpn z
    rw [ep]
    cases s
    ·simp only [ord] at hz ⊢;simp at hz ⊢;grind
    ·simp only [ord,if_true] at hz ⊢;simp at hz ⊢;grind
   ·rw [I3 y c1 c2];exact h.lt y hy
 ·rw [(rotL_same M x p s sp y).2.2.1];exact h.val y hy
 ·rw [I3 y (fun e=>hz (.inl e)) (fun e=>hz (.inr e)),(rotL_same M x p s sp y).2.2.2.1];exact h.mn y hy id
 ·rw [I3 y (fun e=>hz (.inl e)) (fun e=>hz (.inr e)),(rotL_same M x p s sp y).2.2.2.2.1];exact h.mx y hy id
 ·rw [I3 y (fun e=>hz (.inl e)) (fun e=>hz (.inr e)),(rotL_same M x p s sp y).2.2.2.2.2];exact h.cnt y hy id
 ·rw [hup y hy] at ht
  by_cases c1:y=x
  ·subst c1
   rw [if_pos rfl] at ht
   rw [I1];exact h.row p hpn ht
  ·rw [if_neg c1] at ht
   by_cases c2:y=p
   ·rw [if_pos c2] at ht;cases ht
   ·rw [if_neg c2] at ht
    rw [I3 y c1 c2]
    split at ht
    ·cases ht
    ·exact h.row y hy ht
end
end Sv
namespace Sv
def hangM (M:Nat→Nd) (v:Nat) (s:Bool) (w:Option Nat):Nat→Nd :=
 let M1:=upd M v { M v with b:=setb (M v).b s w }
 match w with | none=>M1 | some y=>upd M1 y { M1 y with up:=some v }
def rotT (M:Nat→Nd) (x p:Nat) (sp:Bool):Nat→Nd:=match (M p).up with | none=>upd M x { M x with up:=none } | some g=>hangM M g sp (some x)
def rotM (M:Nat→Nd) (x p:Nat) (s sp:Bool):Nat→Nd :=
 let M1:=rotT M x p sp
 let M2:=hangM M1 p s ((M1 x).b (!s))
 let M3:=hangM M2 x (!s) (some p)
 refM (refM M3 p) x
def pot (I:Nat→List Nat):Nat→Nat | 0=>0 | k+1=>pot I k+(I k).length.log2
section
variable {n:Nat} {V:Nat→Int} {r:Nat→List Nat} {Z:Nat→Prop} {M:Nat→Nd} {I:Nat→List Nat} {P:Nat→Bool} {D:Nat→Int}
theorem hangM_ne {v:Nat} {s:Bool} {w:Option Nat} {y:Nat} (h1:y≠v) (h2:w≠some y):hangM M v s w y=M y:=by
 cases w with
 | none=>exact upd_ne _ _ h1
 | some z=>simp only [hangM];rw [upd_ne _ _ (fun e=>h2 (by rw [e])),upd_ne _ _ h1]
theorem hangM_v {v:Nat} {s:Bool} {w:Option Nat} (h2:w≠some v):hangM M v s w v = { M v with b:=setb (M v).b s w }:=by
 cases w with
 | none=>exact upd_self _ _ _
 | some z=>simp only [hangM];rw [upd_ne _ _ (fun e=>h2 (by rw [e])),upd_self]
theorem hangM_w {v y:Nat} {s:Bool} (h:y≠v):hangM M v s (some y) y = { M y with up:=some v }:=by
 simp only [hangM];rw [upd_self,upd_ne _ _ h]
theorem rot_eq {x p:Nat} {s sp:Bool} (R:RF n M I x p s sp):hangM (hangM (rotT M x p sp) p s ((rotT M x p sp x).b (!s))) x (!s) (some p)=rotL M x p s sp:=by
 have hxp:=R.xp
 have tx:rotT M x p sp x = { M x with up:=(M p).up }:=by
  unfold rotT
  cases e:(M p).up with
  | none=>simp only;exact upd_self _ _ _
  | some g=>simp only;exact hangM_w (Ne.symm (R.rg g e).2.1)
 have tg:∀ g,(M p).up=some g→rotT M x p sp g = { M g with b:=setb (M g).b sp (some x) }:=fun g e=>by
  unfold rotT
  rw [e]
  exact hangM_v (fun e2=>(R.rg g e).2.1 (by cases e2;rfl))
 have tq:∀ y,y≠x→(M p).up≠some y→rotT M x p sp y=M y:=fun y h1 h2=>by
  unfold rotT
  cases e:(M p).up with
  | none=>exact upd_ne _ _ h1
  | some g=>exact hangM_ne (fun e2=>h2 (by rw [e,e2])) (fun e2=>h1 (by cases e2;rfl))
 have tp:rotT M x p sp p=M p:=tq p (Ne.symm hxp) (fun e=>(R.rg p e).2.2.1 rfl)
 have bx:(rotT M x p sp x).b=(M x).b:=by rw [tx]
 rw [bx]
 have hmx:(M x).b (!s)≠some x:=fun e=>(R.ri x e).2.1 rfl
 have hmp:(M x).b (!s)≠some p:=fun e=>(R.ri p e).2.2.1 rfl
 funext y
 by_cases c1:y=x
 ·subst c1
  rw [R.rx,hangM_v (fun e=>hxp (by cases e;rfl)),hangM_ne hxp hmx,tx]
 ·by_cases c2:y=p
  ·subst c2
   rw [R.rp,hangM_w c1,hangM_v hmp,tp]
  ·rw [hangM_ne c1 (fun e=>c2 (by cases e;rfl))]
   by_cases c3:(M x).b (!s)=some y
   ·obtain ⟨m1,m2,m3,m4,m5⟩:=R.ri y c3
    rw [c3,m5,hangM_w c2,tq y c1 m4]
   ·rw [hangM_ne c2 c3]
    by_cases c4:(M p).up=some y
    ·rw [tg y c4,(R.rg y c4).2.2.2.2]
    ·rw [tq y c1 c4,R.ro y c1 c2 c3 c4]
theorem rotM_eq {x p:Nat} {s sp:Bool} (R:RF n M I x p s sp):rotM M x p s sp=refM (refM (rotL M x p s sp) p) x:=by
 exact congrArg (fun q=>refM (refM q p) x) (rot_eq R)
theorem rotM_same {x p:Nat} {s sp:Bool} (R:RF n M I x p s sp) (y:Nat):(rotM M x p s sp y).b=(rotL M x p s sp y).b∧(rotM M x p s sp y).up=(rotL M x p s sp y).up∧(rotM M x p s sp y).t=(M y).t∧(rotM M x p s sp y).a=(M y).a:=by
 rw [rotM_eq R]
 obtain ⟨a1,a2,a3,a4,_⟩:=refM_same (M:=refM (rotL M x p s sp) p) x y
 obtain ⟨b1,b2,b3,b4,_⟩:=refM_same (M:=rotL M x p s sp) p y
 obtain ⟨c1,c2,_⟩:=rotL_same M x p s sp y
 exact ⟨a1.trans b1,a2.trans b2,(a3.trans b3).trans c1,(a4.trans b4).trans c2⟩
theorem Inv.mono {Z':Nat→Prop} (h:Inv n V r Z M I P D) (hz:∀ y,Z y→Z' y):Inv n V r Z' M I P D :=
 ⟨h.ch,h.par,h.spl,h.top,h.nd,h.lt,h.val,fun x hx c=>h.mn x hx fun c2=>c (hz x c2),fun x hx c=>h.mx x hx fun c2=>c (hz x c2),fun x hx c=>h.cnt x hx fun c2=>c (hz x c2),h.row,h.bnd⟩
theorem rotM_inv (h:Inv n V r (fun _=>False) M I P D) {x p:Nat} {s sp:Bool} (hx:x<n) (hp:(M x).up=some p) (hs:(M p).b s=some x) (hsp:∀ g,(M p).up=some g→(M g).b sp=some p) (hcx:Clear M P D x) (hcp:Clear M P D p) :
  Inv n V r (fun _=>False) (rotM M x p s sp) (rotI M I x p s) P D:=by
 have R:=rot_facts (sp:=sp) h hx hp hs
 have hpn:=(h.up_len hx hp).1
 rw [rotM_eq R]
 have h1:=rotL_inv h hx hp hs hsp hcx hcp
 have e:=rotL_same M x p s sp
 have h2:=refM_inv h1 (x:=p) hpn hcp.2.1 (by rw [(e p).2.1];exact hcp.2.2.2) (fun s' y hy=>by
  rintro (rfl | rfl)
  ·have:=(h1.ch p s' y hpn hy).2.1
   rw [R.rx] at this
   simp only at this
   have g:=(R.rg p this).2.2.1
   exact g rfl
  ·have:=h1.below hpn hy;omega)
 have h3:=refM_inv h2 (x:=x) hx hcx.2.1 (by rw [(refM_same p x).2.2.2.1,(e x).2.1];exact hcx.2.2.2) (fun s' y hy=>by
  rintro ⟨rfl | rfl,g⟩
  ·have:=h2.below hx hy;omega
  ·exact g rfl)
 exact h3.mono fun y hy=>by
  obtain ⟨⟨rfl | rfl,g⟩,g2⟩:=hy
  ·exact g2 rfl
  ·exact g rfl
theorem rotM_cl (h:Inv n V r (fun _=>False) M I P D) {x p k:Nat} {s sp:Bool} (hx:x<n) (hp:(M x).up=some p) (hs:(M p).b s=some x) (hcl:Cl M P D x (k+1)):Cl (rotM M x p s sp) P D x k:=by
 have R:=rot_facts (sp:=sp) h hx hp hs
 obtain ⟨hpn,hpl⟩:=h.up_len hx hp
 have e:=rotM_same R
 have ux:(rotM M x p s sp x).up=(M p).up:=by rw [(e x).2.1,R.rx]
 have cx:Clear (rotM M x p s sp) P D x:=by
  have:=hcl.clear
  exact ⟨this.1,this.2.1,by rw [(e x).2.2.1];exact this.2.2.1,by rw [(e x).2.2.2];exact this.2.2.2⟩
 cases hcl with
 | step g1 g2 g3 =>
  rw [hp] at g1;cases g1
  cases g3 with
  | top g4 g5=>exact .top (by rw [ux];exact g4) cx
  | @step _ g k' g4 g5 g6 =>
   have hg:=h.up_len hpn g4
   refine .step (by rw [ux];exact g4) cx (g6.frame h hg.1 hg.2 fun z hz hl=>?_)
   refine ⟨?_,(e z).2.2.1,(e z).2.2.2⟩
   rw [(e z).2.1]
   have z1:z≠x:=fun e=>by subst e;omega
   have z2:z≠p:=fun e=>by subst e;omega
   have z3:(M x).b (!s)≠some z:=fun e=>by have:=h.below hx e;omega
   by_cases z4:(M p).up=some z
   ·rw [(R.rg z z4).2.2.2.2]
   ·rw [R.ro z z1 z2 z3 z4]
theorem pot_out {I I':Nat→List Nat} {k:Nat} (h:∀ y,y<k→I' y=I y):pot I' k=pot I k:=by
 induction k with
 | zero=>rfl
 | succ k ih=>simp only [pot];rw [ih fun y hy=>h y (by omega),h k (by omega)]
theorem pot_upd {I I':Nat→List Nat} {k x:Nat} (hx:x<k) (h:∀ y,y≠x→I' y=I y):pot I' k+(I x).length.log2=pot I k+(I' x).length.log2:=by
 induction k with
 | zero=>omega
 | succ k ih =>
  simp only [pot]
  by_cases c:x=k
  ·subst c
   rw [pot_out fun y hy=>h y (by omega)]
   omega
  ·have:=ih (by omega)
   rw [h k (fun e=>c e.symm)]
   omega
theorem rot_pot (h:Inv n V r (fun _=>False) M I P D) {x p:Nat} {s sp:Bool} (hx:x<n) (hp:(M x).up=some p) (hs:(M p).b s=some x) :
  pot (rotI M I x p s) n+(I x).length.log2=pot I n+((IL I ((M x).b (!s))).length+1+(IL I ((M p).b (!s))).length).log2:=by
 have R:=rot_facts (sp:=sp) h hx hp hs
 have hpn:=(h.up_len hx hp).1
 have hxp:=R.xp
 have h1:=pot_upd (I:=I) (I':=fun y=>if y=x then I p else I y) hx (fun y hy=>by simp [hy])
 have h2:=pot_upd (I:=fun y=>if y=x then I p else I y) (I':=rotI M I x p s) hpn (fun y hy=>by simp [rotI,hy])
 simp only [if_pos,if_neg (Ne.symm hxp)] at h1 h2
 rw [show rotI M I x p s p=ord s (IL I ((M x).b (!s))) p (IL I ((M p).b (!s))) by simp [rotI,Ne.symm hxp],ord_len] at h2
 omega
theorem zig_pot (h:Inv n V r (fun _=>False) M I P D) {x p:Nat} {s:Bool} (hx:x<n) (hp:(M x).up=some p) (hs:(M p).b s=some x) :
  pot (rotI M I x p s) n+3*(I x).length.log2≤pot I n+3*(rotI M I x p s x).length.log2:=by
 have h1:=rot_pot (sp:=false) h hx hp hs
 obtain ⟨hpn,hpl⟩:=h.up_len hx hp
 rw [show rotI M I x p s x=I p by simp [rotI]]
 have e1:=h.two hpn s
 rw [hs,show IL I (some x)=I x from rfl] at e1
 have e2:=h.two hx s
 have g1:=St.log_mono (a:=(IL I ((M x).b (!s))).length+1+(IL I ((M p).b (!s))).length) (b:=(I p).length) (by omega)
 have g2:=St.log_mono (a:=(I x).length) (b:=(I p).length) (by omega)
 omega
theorem zigzig (h:Inv n V r (fun _=>False) M I P D) {x p g:Nat} {s:Bool} (hx:x<n) (hp:(M x).up=some p) (hs:(M p).b s=some x) (hg:(M p).up=some g) (hsg:(M g).b s=some p) {sg:Bool} {M1:Nat→Nd} {I1:Nat→List Nat} (hM:M1=rotM M p g s sg) (hI:I1=rotI M I p g s) :
  (M1 x).up=some p∧(M1 p).b s=some x∧(M1 p).up=(M g).up∧rotI M1 I1 x p s x=I g∧pot (rotI M1 I1 x p s) n+3*(I x).length.log2+1≤pot I n+3*(I g).length.log2∧(M1 x).t=(M x).t∧(M1 x).a=(M x).a:=by
 obtain ⟨hpn,hpl⟩:=h.up_len hx hp
 obtain ⟨hgn,hgl⟩:=h.up_len hpn hg
 have R:=rot_facts (sp:=sg) h hpn hg hsg
 have E:=rotM_same R
 rw [← hM] at E
 have xp:x≠p:=fun e=>by subst e;omega
 have xg:x≠g:=fun e=>by subst e;omega
 have xm:(M p).b (!s)≠some x:=fun e=>h.apart hpn s hs e rfl
 have xt:(M g).up≠some x:=fun e=>by have:=(h.up_len hgn e).2;omega
 have rx:rotL M p g s sg x=M x:=R.ro x xp xg xm xt
 have b1:(M1 x).up=some p:=by rw [(E x).2.1,rx];exact hp
 have b2:(M1 p).b s=some x:=by rw [(E p).1,R.rx];simp only;rw [setb_ne _ _ (by cases s <;> simp)];exact hs
 have b3:(M1 p).b (!s)=some g:=by rw [(E p).1,R.rx];exact setb_self _ _ _
 have b4:(M1 x).b=(M x).b:=by rw [(E x).1,rx]
 have i1:I1 p=I g:=by rw [hI];simp [rotI]
 have i2:I1 g=ord s (IL I ((M p).b (!s))) g (IL I ((M g).b (!s))):=by rw [hI];simp [rotI,Ne.symm R.xp]
 have i3:∀ y,y≠p→y≠g→I1 y=I y:=fun y c1 c2=>by rw [hI];simp [rotI,c1,c2]
 have i4:IL I1 ((M1 x).b (!s))=IL I ((M x).b (!s)):=by
  rw [b4]
  cases e:(M x).b (!s) with
  | none=>rfl
  | some m =>
   have:=h.below hx e
   exact i3 m (fun e=>by subst e;omega) (fun e=>by subst e;omega)
 refine ⟨b1,b2,by rw [(E p).2.1,R.rx],by simp [rotI,i1],?_,(E x).2.2.1,(E x).2.2.2⟩
 have p1:=rot_pot (sp:=sg) h hpn hg hsg
 rw [← hI] at p1
 have p2:pot (rotI M1 I1 x p s) n+(I1 x).length.log2=pot I1 n+((IL I1 ((M1 x).b (!s))).length+1+(IL I1 ((M1 p).b (!s))).length).log2:=by
  have h1:=pot_upd (I:=I1) (I':=fun y=>if y=x then I1 p else I1 y) hx (fun y hy=>by simp [hy])
  have h2:=pot_upd (I:=fun y=>if y=x then I1 p else I1 y) (I':=rotI M1 I1 x p s) hpn (fun y hy=>by simp [rotI,hy])
  simp only [if_pos,if_neg (Ne.symm xp)] at h1 h2
  rw [show rotI M1 I1 x p s p=ord s (IL I1 ((M1 x).b (!s))) p (IL I1 ((M1 p).b (!s))) by simp [rotI,Ne.symm xp],ord_len] at h2
  omega
 rw [i3 x xp xg,i4,b3,show IL I1 (some g)=I1 g from rfl,i2,ord_len] at p2
 have e1:=h.two hx s
 have e2:=h.two hpn s
 rw [hs,show IL I (some x)=I x from rfl] at e2
 have e3:=h.two hgn s
 rw [hsg,show IL I (some p)=I p from rfl] at e3
 have g1:=St.log_two (a:=(IL I ((M p).b (!s))).length+1+(IL I ((M g).b (!s))).length) (b:=(I x).length) (c:=(I g).length) (by omega) (by omega) (by omega)
 have g2:=St.log_mono (a:=(IL I ((M x).b (!s))).length+1+((IL I ((M p).b (!s))).length+1+(IL I ((M g).b (!s))).length)) (b:=(I g).length) (by omega)
 have g3:=St.log_mono (a:=(I x).length) (b:=(I p).length) (by omega)
 omega
theorem zigzag (h:Inv n V r (fun _=>False) M I P D) {x p g:Nat} {s:Bool} (hx:x<n) (hp:(M x).up=some p) (hs:(M p).b s=some x) (hg:(M p).up=some g) (hsg:(M g).b (!s)=some p) {M1:Nat→Nd} {I1:Nat→List Nat} (hM:M1=rotM M x p s (!s)) (hI:I1=rotI M I x p s) :
  (M1 x).up=some g∧(M1 g).b (!s)=some x∧(M1 g).up=(M g).up∧rotI M1 I1 x g (!s) x=I g∧pot (rotI M1 I1 x g (!s)) n+3*(I x).length.log2+1≤pot I n+3*(I g).length.log2:=by
 obtain ⟨hpn,hpl⟩:=h.up_len hx hp
 obtain ⟨hgn,hgl⟩:=h.up_len hpn hg
 have R:=rot_facts (sp:=!s) h hx hp hs
 have E:=rotM_same R
 rw [← hM] at E
 obtain ⟨_,gx,gp,gm,gr⟩:=R.rg g hg
 have b1:(M1 x).up=some g:=by rw [(E x).2.1,R.rx];exact hg
 have b2:(M1 g).b (!s)=some x:=by rw [(E g).1,gr];exact setb_self _ _ _
 have b3:(M1 g).b s=(M g).b s:=by rw [(E g).1,gr];exact setb_ne _ _ (by cases s <;> simp)
 have b4:(M1 x).b s=(M x).b s:=by rw [(E x).1,R.rx];exact setb_ne _ _ (by cases s <;> simp)
 have i1:I1 x=I p:=by rw [hI];simp [rotI]
 have i2:I1 p=ord s (IL I ((M x).b (!s))) p (IL I ((M p).b (!s))):=by rw [hI];simp [rotI,Ne.symm R.xp]
 have i3:∀ y,y≠x→y≠p→I1 y=I y:=fun y c1 c2=>by rw [hI];simp [rotI,c1,c2]
 have i4:IL I1 ((M1 x).b s)=IL I ((M x).b s):=by
  rw [b4]
  cases e:(M x).b s with
  | none=>rfl
  | some m =>
   have:=h.below hx e
   exact i3 m (fun e=>by subst e;omega) (fun e=>by subst e;omega)
 have i5:IL I1 ((M1 g).b s)=IL I ((M g).b s):=by
  rw [b3]
  cases e:(M g).b s with
  | none=>rfl
  | some m =>
   refine i3 m (fun e2=>?_) (fun e2=>?_)
   ·subst e2
    have:=(h.ch g s m hgn e).2.1
    rw [hp] at this;cases this;exact gp rfl
   ·subst e2
    exact h.apart hgn s e hsg rfl
 refine ⟨b1,b2,by rw [(E g).2.1,gr],by simp [rotI,i3 g gx gp],?_⟩
 have p1:=rot_pot (sp:=!s) h hx hp hs
 rw [← hI] at p1
 have p2:pot (rotI M1 I1 x g (!s)) n+(I1 x).length.log2=pot I1 n+((IL I1 ((M1 x).b s)).length+1+(IL I1 ((M1 g).b s)).length).log2:=by
  have h1:=pot_upd (I:=I1) (I':=fun y=>if y=x then I1 g else I1 y) hx (fun y hy=>by simp [hy])
  have h2:=pot_upd (I:=fun y=>if y=x then I1 g else I1 y) (I':=rotI M1 I1 x g (!s)) hgn (fun y hy=>by simp [rotI,hy])
  simp only [if_pos,if_neg gx] at h1 h2
  rw [show rotI M1 I1 x g (!s) g=ord (!s) (IL I1 ((M1 x).b s)) g (IL I1 ((M1 g).b s)) by simp [rotI,gx],ord_len] at h2
  omega
 rw [i1,i4,i5] at p2
 have e1:=h.two hx s
 have e2:=h.two hpn s
 rw [hs,show IL I (some x)=I x from rfl] at e2
 have e3:=h.two hgn s
 rw [hsg,show IL I (some p)=I p from rfl] at e3
 have g1:=St.log_two (a:=(IL I ((M x).b (!s))).length+1+(IL I ((M p).b (!s))).length) (b:=(IL I ((M x).b s)).length+1+(IL I ((M g).b s)).length) (c:=(I g).length) (by omega) (by omega) (by omega)
 have g3:=St.log_mono (a:=(I x).length) (b:=(I p).length) (by omega)
 have g4:=St.log_mono (a:=(I p).length) (b:=(I g).length) (by omega)
 omega
end
end Sv
namespace Sv
section
variable {n:Nat} {V:Nat→Int} {r:Nat→List Nat} {Z:Nat→Prop} {M M1 M2:Nat→Nd} {I:Nat→List Nat} {P:Nat→Bool} {D:Nat→Int}
theorem Inv.row_sub (h:Inv n V r Z M I P D) {x y:Nat} (hx:x<n) (hy:y∈I x):r y=r x∧y∈r x:=by
 obtain ⟨k,_,z,hz,ht,hs⟩:=h.climb hx
 have h1:=h.row z hz ht y (hs y hy)
 have h2:=h.row z hz ht x (hs x (h.self hx))
 exact ⟨h1.trans h2.symm,by rw [h2];exact hs y hy⟩
theorem Inv.row_up (h:Inv n V r Z M I P D) {x u:Nat} (hu:u<n) (hx:x∈I u):u∈r x:=by
 obtain ⟨k,_,z,hz,ht,hs⟩:=h.climb hu
 rw [h.row z hz ht x (hs x hx)]
 exact hs u (h.self hu)
def Rest (n:Nat) (r:Nat→List Nat) (x:Nat) (M M':Nat→Nd):Prop:=∀ y,y<n→y ∉ r x→M' y=M y
theorem Rest.refl (x:Nat):Rest n r x M M:=fun _ _ _=>rfl
theorem Rest.trans {x:Nat} (h:Rest n r x M M1) (k:Rest n r x M1 M2):Rest n r x M M2:=fun y h1 h2=>(k y h1 h2).trans (h y h1 h2)
theorem Rest.row {x z:Nat} (h:Rest n r x M M1) (e:r x=r z):Rest n r z M M1:=fun y h1 h2=>h y h1 (by rw [e];exact h2)
theorem setM_rest (h:Inv n V r Z M I P D) {x:Nat} (hx:x<n):Rest n r x M (setM M x):=fun y hy hn=>by
 refine setM_o (fun e=>hn ?_) (fun c=>hn ?_)
 ·rw [e];exact (h.row_sub hx (h.self hx)).2
 ·obtain ⟨s,hs⟩:=hangs_some c
  exact (h.row_sub hx (h.sub hx hs y (h.self hy))).2
theorem rotM_rest (h:Inv n V r Z M I P D) {x p:Nat} {s sp:Bool} (hx:x<n) (hp:(M x).up=some p) (hs:(M p).b s=some x):Rest n r x M (rotM M x p s sp):=fun y hy hn=>by
 have R:=rot_facts (sp:=sp) h hx hp hs
 have hpn:=(h.up_len hx hp).1
 have hxp:x∈I p:=h.sub hpn hs x (h.self hx)
 have n1:y≠x:=fun e=>hn (by rw [e];exact (h.row_sub hx (h.self hx)).2)
 have n2:y≠p:=fun e=>hn (by rw [e];exact h.row_up hpn hxp)
 have n3:(M x).b (!s)≠some y:=fun e=>hn (h.row_sub hx (h.sub hx e y (h.self hy))).2
 have n4:(M p).up≠some y:=fun e=>hn (by
  obtain ⟨_,s',h2⟩:=h.par p y hpn e
  exact h.row_up hy (h.sub hy h2 x hxp))
 rw [rotM_eq R,refM_other n1,refM_other n2,R.ro y n1 n2 n3 n4]
theorem Inv.anc (h:Inv n V r Z M I P D):∀ {m x y:Nat},(I x).length≤m→x<n→y∈I x→y=x∨(M y).up≠none:=by
 intro m
 induction m with
 | zero =>
  intro x y hm hx hy
  have:=h.two hx false
  omega
 | succ m ih =>
  intro x y hm hx hy
  rcases (h.mem hx y).1 hy with e | e | e
  ·exact .inl e
  ·cases hc:(M x).b false with
   | none=>rw [hc] at e;simp [IL] at e
   | some c =>
    rw [hc] at e
    have e':y∈I c:=e
    obtain ⟨g1,g2,_⟩:=h.ch x _ c hx hc
    have g3:=h.below hx hc
    rcases ih (by omega) g1 e' with e2 | e2
    ·right;rw [e2,g2];simp
    ·exact .inr e2
  ·cases hc:(M x).b true with
   | none=>rw [hc] at e;simp [IL] at e
   | some c =>
    rw [hc] at e
    have e':y∈I c:=e
    obtain ⟨g1,g2,_⟩:=h.ch x _ c hx hc
    have g3:=h.below hx hc
    rcases ih (by omega) g1 e' with e2 | e2
    ·right;rw [e2,g2];simp
    ·exact .inr e2
theorem Inv.one_top (h:Inv n V r Z M I P D) {a b:Nat} (hb:b<n) (hbt:(M b).up=none) (ha:a∈r b) (hne:a≠b):(M a).up≠none:=by
 rw [h.root_row hb hbt] at ha
 rcases h.anc (Nat.le_refl _) hb ha with e | e
 ·exact absurd e hne
 ·exact e
end
end Sv
namespace Sv
section
variable {n:Nat} {V V':Nat→Int} {r r':Nat→List Nat} {M M1 M2:Nat→Nd} {I:Nat→List Nat} {P:Nat→Bool} {D:Nat→Int}
theorem pot_le {I I':Nat→List Nat} {k:Nat} (h:∀ y,y<k→(I' y).length≤(I y).length):pot I' k≤pot I k:=by
 induction k with
 | zero=>exact Nat.le_refl _
 | succ k ih =>
  simp only [pot]
  have h1:=ih fun y hy=>h y (by omega)
  have h2:=St.log_mono (h k (by omega))
  omega
theorem Inv.row_eq (h:Inv n V r (fun _=>False) M I P D) {x y:Nat} (hx:x<n) (hy:y<n):y∈r x↔r y=r x:=by
 obtain ⟨_,_,w,hw,ht,hs⟩:=h.climb hx
 have h2:=h.row w hw ht x (hs x (h.self hx))
 constructor
 ·intro c
  rw [h2] at c ⊢
  exact h.row w hw ht y c
 ·intro e
  rw [← e]
  exact (h.row_sub hy (h.self hy)).2
theorem Inv.row_kid (h:Inv n V r (fun _=>False) M I P D) {x y z:Nat} {s:Bool} (hx:x<n) (hy:y<n) (hz:(M y).b s=some z):z∈r x↔y∈r x:=by
 have hzn:=(h.ch y s z hy hz).1
 have e:r z=r y:=(h.row_sub hy (h.sub hy hz z (h.self hzn))).1
 rw [h.row_eq hx hzn,h.row_eq hx hy,e]
theorem Inv.row_in (h:Inv n V r (fun _=>False) M I P D) {x y z:Nat} (hx:x<n) (hy:y<n) (hz:z∈I y):z∈r x↔y∈r x:=by
 have hzn:=h.lt y hy z hz
 rw [h.row_eq hx hzn,h.row_eq hx hy,(h.row_sub hy hz).1]
def addD (r:Nat→List Nat) (x:Nat) (D:Nat→Int) (d:Int):Nat→Int:=fun y=>if y∈r x∧y≠x then wr (D y+d) else D y
theorem min_plus {l:List Nat} {m d:Int} (h:IsMin V l m) (hV:∀ y∈l,V' y=V y+d):IsMin V' l (m+d):=by
 obtain ⟨⟨y,hy,e⟩,g⟩:=h
 exact ⟨⟨y,hy,by rw [hV y hy,e]⟩,fun y hy=>by rw [hV y hy];have:=g y hy;omega⟩
theorem max_plus {l:List Nat} {m d:Int} (h:IsMax V l m) (hV:∀ y∈l,V' y=V y+d):IsMax V' l (m+d):=by
 obtain ⟨⟨y,hy,e⟩,g⟩:=h
 exact ⟨⟨y,hy,by rw [hV y hy,e]⟩,fun y hy=>by rw [hV y hy];have:=g y hy;omega⟩
theorem min_same {l:List Nat} {m:Int} (h:IsMin V l m) (hV:∀ y∈l,V' y=V y):IsMin V' l m:=by
 have:=min_plus (V':=V') (d:=0) h (fun y hy=>by rw [hV y hy];omega)
 simpa using this
theorem max_same {l:List Nat} {m:Int} (h:IsMax V l m) (hV:∀ y∈l,V' y=V y):IsMax V' l m:=by
 have:=max_plus (V':=V') (d:=0) h (fun y hy=>by rw [hV y hy];omega)
 simpa using this
theorem add_inv (h:Inv n V r (fun _=>False) M I P D) {x:Nat} {d:Int} (hx:x<n) (hu:(M x).up=none) (hV:∀ y,y<n→V' y=if y∈r x then V y+d else V y) (hb:∀ x,x<n→-4611686018427387904≤V' x∧V' x≤4611686018427387904) :
  Inv n V' r (fun _=>False) (upd M x (handN (M x) false d)) I P (addD r x D d):=by
 have xr:=(h.row_sub hx (h.self hx)).2
 have hD:=(h.top x hx hu).2
 have eM:∀ y,(upd M x (handN (M x) false d) y).b=(M y).b∧(upd M x (handN (M x) false d) y).up=(M y).up∧(upd M x (handN (M x) false d) y).t=(M y).t∧(upd M x (handN (M x) false d) y).c=(M y).c:=fun y=>by
  by_cases c:y=x
  ·subst c;rw [upd_self];simp [handN]
  ·rw [upd_ne _ _ c];exact ⟨rfl,rfl,rfl,rfl⟩
 have hsd:∀ y,sd (upd M x (handN (M x) false d)) P y=sd M P y:=fun y=>by unfold sd;rw [(eM y).2.2.1]
 have DX:addD r x D d x=0:=by simp [addD,hD]
 have DT:∀ y,y∈r x→y≠x→addD r x D d y=wr (D y+d):=fun y h1 h2=>by simp [addD,h1,h2]
 have DN:∀ y,y ∉ r x→addD r x D d y=D y:=fun y h1=>by simp [addD,h1]
 have VI:∀ y,y<n→y∈r x→∀ z∈I y,V' z=V z+d:=fun y hy hyr z hz=>by rw [hV z (h.lt y hy z hz),if_pos ((h.row_in hx hy hz).2 hyr)]
 have VN:∀ y,y<n→y ∉ r x→∀ z∈I y,V' z=V z:=fun y hy hyr z hz=>by rw [hV z (h.lt y hy z hz),if_neg (fun e=>hyr ((h.row_in hx hy hz).1 e))]
 refine ⟨fun y s z hy hz=>?_,fun y u hy hu=>?_,fun y hy=>?_,fun y hy ht=>?_,h.nd,h.lt,fun y hy=>?_,fun y hy hz=>?_,fun y hy hz=>?_,fun y hy hz=>?_,fun y hy ht=>?_,hb⟩
 ·rw [(eM y).1] at hz
  obtain ⟨g1,g2,g3,g4⟩:=h.ch y s z hy hz
  refine ⟨g1,by rw [(eM z).2.1];exact g2,by rw [hsd];exact g3,?_⟩
  have hzx:z≠x:=fun e=>by subst e;rw [hu] at g2;cases g2
  have hk:=h.row_kid (x:=x) hx hy hz
  by_cases c:y∈r x
  ·rw [DT z (hk.2 c) hzx,g4]
   by_cases c2:y=x
   ·subst c2
    rw [DX,upd_self,hD]
    simp only [handN,wr_eq];omega
   ·rw [DT y c c2,upd_ne _ _ c2]
    simp only [wr_eq];omega
  ·rw [DN z (fun e=>c (hk.1 e)),DN y c,upd_ne _ _ (fun e=>c (by rw [e];exact xr))]
   exact g4
 ·rw [(eM y).2.1] at hu
  rw [(eM u).1]
  exact h.par y u hy hu
 ·rw [hsd,(eM y).1];exact h.spl y hy
 ·rw [(eM y).2.1] at ht
  have:=h.top y hy ht
  refine ⟨this.1,?_⟩
  unfold addD
  rw [if_neg (fun c=>h.one_top hx hu c.1 c.2 ht)]
  exact this.2
 ·have hv:=h.val y hy
  by_cases c:y∈r x
  ·rw [hV y hy,if_pos c]
   by_cases c2:y=x
   ·subst c2
    rw [DX,upd_self]
    rw [hD] at hv
    simp only [handN]
    rw [hv];simp only [wr_eq];omega
   ·rw [DT y c c2,upd_ne _ _ c2,hv]
    simp only [wr_eq];omega
  ·rw [hV y hy,if_neg c,DN y c,upd_ne _ _ (fun e=>c (by rw [e];exact xr))]
   exact hv
 ·obtain ⟨m,h1,h2⟩:=h.mn y hy hz
  by_cases c:y∈r x
  ·refine ⟨m+d,min_plus h1 (VI y hy c),?_⟩
   by_cases c2:y=x
   ·subst c2
    rw [DX,upd_self]
    rw [hD] at h2
    simp only [handN]
    rw [h2];simp only [wr_eq];omega
   ·rw [DT y c c2,upd_ne _ _ c2,h2]
    simp only [wr_eq];omega
  ·exact ⟨m,min_same h1 (VN y hy c),by rw [DN y c,upd_ne _ _ (fun e=>c (by rw [e];exact xr))];exact h2⟩
 ·obtain ⟨m,h1,h2⟩:=h.mx y hy hz
  by_cases c:y∈r x
  ·refine ⟨m+d,max_plus h1 (VI y hy c),?_⟩
   by_cases c2:y=x
   ·subst c2
    rw [DX,upd_self]
    rw [hD] at h2
    simp only [handN]
    rw [h2];simp only [wr_eq];omega
   ·rw [DT y c c2,upd_ne _ _ c2,h2]
    simp only [wr_eq];omega
  ·exact ⟨m,max_same h1 (VN y hy c),by rw [DN y c,upd_ne _ _ (fun e=>c (by rw [e];exact xr))];exact h2⟩
 ·rw [(eM y).2.2.2];exact h.cnt y hy hz
 ·rw [(eM y).2.1] at ht;exact h.row y hy ht
end
end Sv
namespace Sv
section
variable {n:Nat} {V V':Nat→Int} {r r':Nat→List Nat} {M M1 M2:Nat→Nd} {I:Nat→List Nat} {P:Nat→Bool} {D:Nat→Int}
def putI (I:Nat→List Nat) (x:Nat) (l:List Nat):Nat→List Nat:=fun y=>if y=x then l else I y
theorem putI_self (I:Nat→List Nat) (x:Nat) (l:List Nat):putI I x l x=l:=by simp [putI]
theorem putI_ne (I:Nat→List Nat) {x y:Nat} (l:List Nat) (h:y≠x):putI I x l y=I y:=by simp [putI,h]
theorem putI_IL (I:Nat→List Nat) {x:Nat} (l:List Nat) {w:Option Nat} (h:w≠some x):IL (putI I x l) w=IL I w:=by
 cases w with
 | none=>rfl
 | some y=>exact putI_ne I l (fun e=>h (by rw [e]))
def cutM (M:Nat→Nd) (x L:Nat):Nat→Nd:=hangM (upd M L { M L with up:=none }) x false none
theorem cutM_x {x L:Nat} (h:x≠L):cutM M x L x = { M x with b:=setb (M x).b false none }:=by
 unfold cutM;rw [hangM_v (by simp),upd_ne _ _ h]
theorem cutM_L {x L:Nat} (h:x≠L):cutM M x L L = { M L with up:=none }:=by
 unfold cutM;rw [hangM_ne (Ne.symm h) (by simp),upd_self]
theorem cutM_o {x L y:Nat} (h1:y≠x) (h2:y≠L):cutM M x L y=M y:=by
 unfold cutM;rw [hangM_ne h1 (by simp),upd_ne _ _ h2]
theorem cut_inv (h:Inv n V r (fun _=>False) M I P D) {x L:Nat} (hx:x<n) (hu:(M x).up=none) (hc:Clear M P D x) (hL:(M x).b false=some L)
  (hr:∀ y,r' y=if y∈I L then I L else if y∈x :: IL I ((M x).b true) then x :: IL I ((M x).b true) else r y) :
  Inv n V r' (fun _=>False) (refM (cutM M x L) x) (putI I x (x :: IL I ((M x).b true))) P D:=by
 obtain ⟨hLn,hLu,_⟩:=h.ch x _ L hx hL
 have hxL:x≠L:=fun e=>by subst e;rw [hu] at hLu;cases hLu
 have hsp:=h.spl_clear hx hc false
 simp only [ord] at hsp
 have hsp':I x=I L ++ x :: IL I ((M x).b true):=by rw [hL] at hsp;simpa [IL] using hsp
 have hnd:=h.nd x hx
 rw [hsp'] at hnd
 have hrx:=h.root_row hx hu
 have hcl:=clear_child h hx hc hL
 have bx:∀ s,(cutM M x L x).b s=if s=false then none else (M x).b s:=fun s=>by rw [cutM_x hxL];rfl
 have bo:∀ y,y≠x→(cutM M x L y).b=(M y).b:=fun y hy=>by
  by_cases c:y=L
  ·subst c;rw [cutM_L hxL]
  ·rw [cutM_o hy c]
 have upo:∀ y,y≠L→(cutM M x L y).up=(M y).up:=fun y hy=>by
  by_cases c:y=x
  ·subst c;rw [cutM_x hxL]
  ·rw [cutM_o c hy]
 have same:∀ y,(cutM M x L y).t=(M y).t∧(cutM M x L y).a=(M y).a∧(cutM M x L y).v=(M y).v∧(cutM M x L y).lo=(M y).lo∧(cutM M x L y).hi=(M y).hi∧(cutM M x L y).c=(M y).c:=fun y=>by
  by_cases c:y=x
  ·subst c;rw [cutM_x hxL];simp
  ·by_cases c2:y=L
   ·subst c2;rw [cutM_L hxL];simp
   ·rw [cutM_o c c2];simp
 have hsd:∀ y,sd (cutM M x L) P y=sd M P y:=fun y=>by unfold sd;rw [(same y).1]
 have nx:∀ y s,y<n→(M y).b s≠some x:=fun y s hy e=>by have:=(h.ch y s x hy e).2.1;rw [hu] at this;cases this
 have hB:∀ z,z∈x :: IL I ((M x).b true)→z ∉ I L:=fun z hz c=>(List.nodup_append.1 hnd).2.2 z c z hz rfl
 have hz:Inv n V r' (fun y=>y=x) (cutM M x L) (putI I x (x :: IL I ((M x).b true))) P D:=by
  refine ⟨fun y s z hy hz=>?_,fun y u hy hu2=>?_,fun y hy=>?_,fun y hy ht=>?_,fun y hy=>?_,fun y hy=>?_,fun y hy=>?_,fun y hy hz=>?_,fun y hy hz=>?_,fun y hy hz=>?_,fun y hy ht=>?_,h.bnd⟩
  ·rw [hsd,(same y).2.1]
   have hz':(M y).b s=some z∧(y=x→s≠false):=by
    by_cases c:y=x
    ·subst c
     rw [bx] at hz
     split at hz
     ·cases hz
     ·rename_i e;exact ⟨hz,fun _=>e⟩
    ·rw [bo y c] at hz;exact ⟨hz,fun e=>absurd e c⟩
   obtain ⟨g1,g2,g3,g4⟩:=h.ch y s z hy hz'.1
   refine ⟨g1,?_,g3,g4⟩
   rw [upo z (fun e=>by
    subst e
    rw [hLu] at g2;cases g2
    exact hz'.2 rfl (h.side_uniq hx hz'.1 hL))]
   exact g2
  ·have c1:y≠L:=fun e=>by subst e;rw [cutM_L hxL] at hu2;cases hu2
   rw [upo y c1] at hu2
   obtain ⟨g1,s,g2⟩:=h.par y u hy hu2
   refine ⟨g1,s,?_⟩
   by_cases c:u=x
   ·subst c
    rw [bx,if_neg (fun e=>by subst e;rw [hL] at g2;cases g2;exact c1 rfl)]
    exact g2
   ·rw [bo u c];exact g2
  ·rw [hsd]
   by_cases c:y=x
   ·subst c
    rw [putI_self,sd_clear hc,bx,bx,if_pos rfl,if_neg (by simp),putI_IL _ _ (nx y _ hy)]
    rfl
   ·rw [putI_ne _ _ c,bo y c,putI_IL _ _ (nx y _ hy),putI_IL _ _ (nx y _ hy)]
    exact h.spl y hy
  ·by_cases c:y=L
   ·subst c;exact hcl
   ·rw [upo y c] at ht;exact h.top y hy ht
  ·by_cases c:y=x
   ·subst c;rw [putI_self];exact (List.nodup_append.1 hnd).2.1
   ·rw [putI_ne _ _ c];exact h.nd y hy
  ·by_cases c:y=x
   ·subst c;rw [putI_self]
    intro z hz
    exact h.lt y hy z (by rw [hsp'];exact List.mem_append_right _ hz)
   ·rw [putI_ne _ _ c];exact h.lt y hy
  ·rw [(same y).2.2.1];exact h.val y hy
  ·rw [putI_ne _ _ hz,(same y).2.2.2.1];exact h.mn y hy id
  ·rw [putI_ne _ _ hz,(same y).2.2.2.2.1];exact h.mx y hy id
  ·rw [putI_ne _ _ hz,(same y).2.2.2.2.2];exact h.cnt y hy id
  ·intro z hz
   by_cases c:y=x
   ·subst c
    rw [putI_self] at hz ⊢
    rw [hr,if_neg (hB z hz),if_pos hz]
   ·rw [putI_ne _ _ c] at hz ⊢
    by_cases c2:y=L
    ·subst c2;rw [hr,if_pos hz]
    ·rw [upo y c2] at ht
     have hzr:z ∉ r x:=fun e=>by
      have:=(h.row_in hx hy hz).1 e
      exact h.one_top hx hu this c ht
     rw [hrx,hsp'] at hzr
     rw [hr,if_neg (fun e=>hzr (List.mem_append_left _ e)),if_neg (fun e=>hzr (List.mem_append_right _ e))]
     exact h.row y hy ht z hz
 have h2:=refM_inv hz hx hc.2.1 (by rw [(same x).2.1];exact hc.2.2.2) (fun s y hy e=>by
  subst e
  have:=hz.below hx hy;omega)
 exact h2.mono fun y hy=>hy.2 hy.1
theorem cut_pot (h:Inv n V r (fun _=>False) M I P D) {x L:Nat} (hx:x<n) (hc:Clear M P D x):pot (putI I x (x :: IL I ((M x).b true))) n≤pot I n:=pot_le fun y hy=>by
 by_cases c:y=x
 ·subst c
  rw [putI_self,h.two hx false]
  simp;omega
 ·rw [putI_ne _ _ c];exact Nat.le_refl _
theorem join_inv (h:Inv n V r (fun _=>False) M I P D) {v b:Nat} (hv:v<n) (hb:b<n) (hvu:(M v).up=none) (hbu:(M b).up=none) (hc:Clear M P D v) (hno:(M v).b true=none) (hne:v≠b)
  (hr:∀ y,r' y=if y∈r v∨y∈r b then r v ++ r b else r y) :
  Inv n V r' (fun _=>False) (refM (hangM M v true (some b)) v) (putI I v (I v ++ I b)) P D:=by
 have hrv:=h.root_row hv hvu
 have hrb:=h.root_row hb hbu
 have eb:hangM M v true (some b) b = { M b with up:=some v }:=hangM_w (Ne.symm hne)
 have ev:hangM M v true (some b) v = { M v with b:=setb (M v).b true (some b) }:=hangM_v (fun e=>hne (by cases e;rfl))
 have eo:∀ y,y≠v→y≠b→hangM M v true (some b) y=M y:=fun y h1 h2=>hangM_ne h1 (fun e=>h2 (by cases e;rfl))
 have bv:∀ s,(hangM M v true (some b) v).b s=if s=true then some b else (M v).b s:=fun s=>by rw [ev];rfl
 have bo:∀ y,y≠v→(hangM M v true (some b) y).b=(M y).b:=fun y hy=>by
  by_cases c:y=b
  ·subst c;rw [eb]
  ·rw [eo y hy c]
 have upo:∀ y,y≠b→(hangM M v true (some b) y).up=(M y).up:=fun y hy=>by
  by_cases c:y=v
  ·subst c;rw [ev]
  ·rw [eo y c hy]
 have same:∀ y,(hangM M v true (some b) y).t=(M y).t∧(hangM M v true (some b) y).a=(M y).a∧(hangM M v true (some b) y).v=(M y).v∧(hangM M v true (some b) y).lo=(M y).lo∧(hangM M v true (some b) y).hi=(M y).hi∧(hangM M v true (some b) y).c=(M y).c:=fun y=>by
  by_cases c:y=v
  ·subst c;rw [ev];simp
  ·by_cases c2:y=b
   ·subst c2;rw [eb];simp
   ·rw [eo y c c2];simp
 have hsd:∀ y,sd (hangM M v true (some b)) P y=sd M P y:=fun y=>by unfold sd;rw [(same y).1]
 have nv:∀ y s,y<n→(M y).b s≠some v∧(M y).b s≠some b:=fun y s hy=>⟨fun e=>(by have:=(h.ch y s v hy e).2.1;rw [hvu] at this;cases this),fun e=>by have:=(h.ch y s b hy e).2.1;rw [hbu] at this;cases this⟩
 have hbt:=h.top b hb hbu
 have hdis:∀ z,z∈I v→z ∉ I b:=fun z hz hz2=>by
  have h1:=h.row v hv hvu z hz
  have h2:=h.row b hb hbu z hz2
  have:b∈r v:=by rw [hrv,← h1,h2];exact h.self hb
  exact h.one_top hv hvu this (Ne.symm hne) hbu
 have hz:Inv n V r' (fun y=>y=v) (hangM M v true (some b)) (putI I v (I v ++ I b)) P D:=by
  refine ⟨fun y s z hy hz=>?_,fun y u hy hu2=>?_,fun y hy=>?_,fun y hy ht=>?_,fun y hy=>?_,fun y hy=>?_,fun y hy=>?_,fun y hy hz=>?_,fun y hy hz=>?_,fun y hy hz=>?_,fun y hy ht=>?_,h.bnd⟩
  ·rw [hsd,(same y).2.1]
   by_cases c:y=v∧s=true
   ·obtain ⟨rfl,rfl⟩:=c
    rw [bv,if_pos rfl] at hz
    cases hz
    exact ⟨hb,by rw [eb],by rw [hbt.1,sd_clear hc],by rw [hbt.2,hc.2.1,hc.2.2.2];exact wr_zero.symm⟩
   ·have hz':(M y).b s=some z:=by
     by_cases c2:y=v
     ·subst c2
      rw [bv,if_neg (fun e=>c ⟨rfl,e⟩)] at hz
      exact hz
     ·rw [bo y c2] at hz;exact hz
    obtain ⟨g1,g2,g3,g4⟩:=h.ch y s z hy hz'
    exact ⟨g1,by rw [upo z (fun e=>(nv y s hy).2 (by rw [hz',e]))];exact g2,g3,g4⟩
  ·by_cases c:y=b
   ·subst c
    rw [eb] at hu2
    cases hu2
    exact ⟨hv,true,by rw [bv,if_pos rfl]⟩
   ·rw [upo y c] at hu2
    obtain ⟨g1,s,g2⟩:=h.par y u hy hu2
    refine ⟨g1,s,?_⟩
    by_cases c2:u=v
    ·subst c2
     rw [bv,if_neg (fun e=>by subst e;rw [hno] at g2;cases g2)]
     exact g2
    ·rw [bo u c2];exact g2
  ·rw [hsd]
   by_cases c:y=v
   ·subst c
    have hsp:=h.spl y hy
    rw [sd_clear hc] at hsp ⊢
    rw [Bool.not_false,hno] at hsp
    rw [putI_self,Bool.not_false,bv,bv,if_pos rfl,if_neg (by simp),putI_IL _ _ (nv y _ hy).1]
    rw [show IL (putI I y (I y ++ I b)) (some b)=I b from putI_ne _ _ (Ne.symm hne)]
    rw [hsp]
    simp [IL]
   ·rw [putI_ne _ _ c,bo y c,putI_IL _ _ (nv y _ hy).1,putI_IL _ _ (nv y _ hy).1]
    exact h.spl y hy
  ·rw [upo y (fun e=>by subst e;rw [eb] at ht;cases ht)] at ht
   exact h.top y hy ht
  ·by_cases c:y=v
   ·subst c;rw [putI_self]
    exact List.nodup_append.2 ⟨h.nd y hy,h.nd b hb,fun z hz z2 hz2 e=>hdis z hz (e▸hz2)⟩
   ·rw [putI_ne _ _ c];exact h.nd y hy
  ·by_cases c:y=v
   ·subst c;rw [putI_self]
    intro z hz
    rcases List.mem_append.1 hz with e | e
    ·exact h.lt y hy z e
    ·exact h.lt b hb z e
   ·rw [putI_ne _ _ c];exact h.lt y hy
  ·rw [(same y).2.2.1];exact h.val y hy
  ·rw [putI_ne _ _ hz,(same y).2.2.2.1];exact h.mn y hy id
  ·rw [putI_ne _ _ hz,(same y).2.2.2.2.1];exact h.mx y hy id
  ·rw [putI_ne _ _ hz,(same y).2.2.2.2.2];exact h.cnt y hy id
  ·intro z hz
   have hyb:y≠b:=fun e=>by subst e;rw [eb] at ht;cases ht
   rw [upo y hyb] at ht
   by_cases c:y=v
   ·subst c
    rw [putI_self] at hz ⊢
    rw [hr,hrv,hrb,if_pos (List.mem_append.1 hz)]
   ·rw [putI_ne _ _ c] at hz ⊢
    have h1:z ∉ r v:=fun e=>h.one_top hv hvu ((h.row_in hv hy hz).1 e) c ht
    have h2:z ∉ r b:=fun e=>h.one_top hb hbu ((h.row_in hb hy hz).1 e) hyb ht
    rw [hr,if_neg (fun e=>e.elim h1 h2)]
    exact h.row y hy ht z hz
 have h2:=refM_inv hz hv hc.2.1 (by rw [(same v).2.1];exact hc.2.2.2) (fun s y hy e=>by
  subst e
  have:=hz.below hv hy;omega)
 exact h2.mono fun y hy=>hy.2 hy.1
theorem join_pot {v:Nat} {l:List Nat} (hv:v<n):pot (putI I v l) n≤pot I n+l.length.log2:=by
 have:=pot_upd (I:=I) (I':=putI I v l) hv (fun y hy=>putI_ne _ _ hy)
 rw [putI_self] at this
 omega
end
end Sv
end Go.Proofs.YthhlfphnokdfaaaGreat
