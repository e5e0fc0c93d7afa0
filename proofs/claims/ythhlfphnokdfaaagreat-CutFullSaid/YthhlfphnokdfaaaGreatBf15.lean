/-
  Foa
-/
import Derived.Test.YthhlfphnokdfaaaGreatBf14
set_option linter.unusedVariables false
set_option linter.unusedSimpArgs false
set_option maxRecDepth 100000
set_option maxHeartbeats 4000000
namespace Go.Proofs.YthhlfphnokdfaaaGreat
namespace Fo
inductive Dp (up:Nat→Option Nat):Nat→Nat→Prop
 | top {x:Nat}:up x=none→Dp up x 0
 | step {x u k:Nat}:up x=some u→Dp up u k→Dp up x (k+1)
theorem Dp.uniq {up:Nat→Option Nat} {x k j:Nat} (h:Dp up x k) (h2:Dp up x j):k=j:=by
 induction h generalizing j with
 | top h1=>cases h2 with
  | top=>rfl
  | step g _=>rw [h1] at g;cases g
 | step h1 _ ih=>cases h2 with
  | top g=>rw [h1] at g;cases g
  | step g g2=>rw [h1] at g;cases g;rw [ih g2]
def pth (up:Nat→Option Nat):Nat→Nat→List Nat
 | 0,x=>[x]
 | k+1,x=>match up x with | none=>[x] | some u=>pth up k u ++ [x]
theorem pth_top {up:Nat→Option Nat} {x:Nat} (k:Nat) (h:up x=none):pth up k x=[x]:=by
 cases k with
 | zero=>rfl
 | succ k=>simp [pth,h]
theorem pth_step {up:Nat→Option Nat} {x u:Nat} (k:Nat) (h:up x=some u):pth up (k+1) x=pth up k u ++ [x]:=by simp [pth,h]
theorem pth_fuel {up:Nat→Option Nat} {x k:Nat} (h:Dp up x k):∀ j,k≤j→pth up j x=pth up k x:=by
 induction h with
 | top h=>intro j _;rw [pth_top j h,pth_top 0 h]
 | @step x u k h1 _ ih =>
  intro j hj
  obtain ⟨i,rfl⟩:∃ i,j=i+1:=⟨j-1,by omega⟩
  rw [pth_step _ h1,pth_step _ h1,ih i (by omega)]
theorem pth_len {up:Nat→Option Nat} {x k:Nat} (h:Dp up x k):(pth up k x).length=k+1:=by
 induction h with
 | top h=>rw [pth_top 0 h];rfl
 | step h1 _ ih=>rw [pth_step _ h1,List.length_append,ih];rfl
theorem pth_mem {up:Nat→Option Nat} {x k:Nat} (h:Dp up x k):∀ y∈pth up k x,∃ j,j≤k∧Dp up y j∧pth up j y <+: pth up k x:=by
 induction h with
 | @top x h =>
  intro y hy
  rw [pth_top 0 h] at hy
  simp at hy
  subst hy
  exact ⟨0,Nat.le_refl _,.top h,List.prefix_refl _⟩
 | @step x u k h1 h2 ih =>
  intro y hy
  rw [pth_step _ h1] at hy
  rcases List.mem_append.1 hy with c | c
  ·obtain ⟨j,g1,g2,g3⟩:=ih y c
   exact ⟨j,by omega,g2,by rw [pth_step _ h1];exact g3.trans (List.prefix_append _ _)⟩
  ·simp at c
   subst c
   exact ⟨k+1,Nat.le_refl _,.step h1 h2,List.prefix_refl _⟩
theorem pth_nodup {up:Nat→Option Nat} {x k:Nat} (h:Dp up x k):(pth up k x).Nodup:=by
 induction h with
 | top h=>rw [pth_top 0 h];simp
 | @step x u k h1 h2 ih =>
  rw [pth_step _ h1]
  refine List.nodup_append.2 ⟨ih,by simp,fun a ha b hb e=>?_⟩
  simp at hb
  subst hb
  subst e
  obtain ⟨j,g1,g2,_⟩:=pth_mem h2 a ha
  have:=g2.uniq (.step h1 h2)
  omega
structure Ft where
 v:List Int
 up:Nat→Option Nat
structure Good (f:Ft):Prop where
 lt:∀ x u,x<f.v.length→f.up x=some u→u<f.v.length
 out:∀ x,f.v.length≤x→f.up x=none
 dep:∀ x,x<f.v.length→∃ k,Dp f.up x k
 bnd:∀ i,i<f.v.length→-Sp.big≤Ne.amt f.v i∧Ne.amt f.v i≤Sp.big
 small:f.v.length≤3000
def path (f:Ft) (x:Nat):List Nat:=if x<f.v.length then pth f.up f.v.length x else []
section
variable {f:Ft}
theorem Good.pth_lt (h:Good f) {x k:Nat} (hx:x<f.v.length) (hd:Dp f.up x k):∀ y∈pth f.up k x,y<f.v.length:=by
 induction hd with
 | top h1=>intro y hy;rw [pth_top 0 h1] at hy;simp at hy;omega
 | @step x u k h1 h2 ih =>
  intro y hy
  rw [pth_step _ h1] at hy
  rcases List.mem_append.1 hy with c | c
  ·exact ih (h.lt x u hx h1) y c
  ·simp at c;omega
theorem Good.dep_le (h:Good f) {x k:Nat} (hx:x<f.v.length) (hd:Dp f.up x k):k<f.v.length:=by
 have h1:=Sp.len_le (pth_nodup hd) (h.pth_lt hx hd)
 rw [pth_len hd] at h1
 omega
theorem Good.path_eq (h:Good f) {x k:Nat} (hx:x<f.v.length) (hd:Dp f.up x k):path f x=pth f.up k x:=by
 unfold path
 rw [if_pos hx,pth_fuel hd _ (by have:=h.dep_le hx hd;omega)]
theorem Good.path_top (h:Good f) {x:Nat} (hx:x<f.v.length) (hu:f.up x=none):path f x=[x]:=by
 rw [h.path_eq hx (.top hu),pth_top 0 hu]
theorem Good.path_step (h:Good f) {x u:Nat} (hx:x<f.v.length) (hu:f.up x=some u):path f x=path f u ++ [x]:=by
 obtain ⟨k,hk⟩:=h.dep u (h.lt x u hx hu)
 rw [h.path_eq hx (.step hu hk),h.path_eq (h.lt x u hx hu) hk,pth_step _ hu]
theorem Good.path_nodup (h:Good f) (x:Nat):(path f x).Nodup:=by
 by_cases hx:x<f.v.length
 ·obtain ⟨k,hk⟩:=h.dep x hx
  rw [h.path_eq hx hk];exact pth_nodup hk
 ·unfold path;rw [if_neg hx];simp
theorem Good.path_lt (h:Good f) {x y:Nat} (hy:y∈path f x):y<f.v.length:=by
 by_cases hx:x<f.v.length
 ·obtain ⟨k,hk⟩:=h.dep x hx
  rw [h.path_eq hx hk] at hy;exact h.pth_lt hx hk y hy
 ·unfold path at hy;rw [if_neg hx] at hy;simp at hy
theorem Good.path_pre (h:Good f) {x y:Nat} (hy:y∈path f x):path f y <+: path f x:=by
 have hyn:=h.path_lt hy
 by_cases hx:x<f.v.length
 ·obtain ⟨k,hk⟩:=h.dep x hx
  rw [h.path_eq hx hk] at hy ⊢
  obtain ⟨j,_,g2,g3⟩:=pth_mem hk y hy
  rw [h.path_eq hyn g2];exact g3
 ·unfold path at hy;rw [if_neg hx] at hy;simp at hy
theorem Good.path_self (h:Good f) {x:Nat} (hx:x<f.v.length):x∈path f x:=by
 cases hu:f.up x with
 | none=>rw [h.path_top hx hu];simp
 | some u=>rw [h.path_step hx hu];simp
def root (f:Ft) (x:Nat):Option Nat:=(path f x).head?
theorem Good.root_top (h:Good f) {x:Nat} (hx:x<f.v.length) (hu:f.up x=none):root f x=some x:=by unfold root;rw [h.path_top hx hu];rfl
theorem Good.root_step (h:Good f) {x u:Nat} (hx:x<f.v.length) (hu:f.up x=some u):root f x=root f u:=by
 unfold root
 rw [h.path_step hx hu]
 have:=h.path_self (h.lt x u hx hu)
 cases e:path f u with
 | nil=>rw [e] at this;simp at this
 | cons a l=>rfl
def linkF (f:Ft) (v w:Nat):Ft:=⟨f.v,fun x=>if x=v then some w else f.up x⟩
theorem Good.dp_root (h:Good f) {x k:Nat} (hx:x<f.v.length) (hd:Dp f.up x k):∃ r,root f x=some r∧r<f.v.length∧f.up r=none:=by
 induction hd with
 | top h1=>exact ⟨_,h.root_top hx h1,hx,h1⟩
 | @step x u k h1 h2 ih =>
  obtain ⟨r,g1,g2⟩:=ih (h.lt x u hx h1)
  exact ⟨r,by rw [h.root_step hx h1];exact g1,g2⟩
theorem link_dp (h:Good f) {v w:Nat} (hv:f.up v=none) (hvn:v<f.v.length):∀ {x k:Nat},x<f.v.length→Dp f.up x k→root f x≠some v→Dp (linkF f v w).up x k:=by
 intro x k hx hd
 induction hd with
 | @top x h1 =>
  intro hr
  refine .top ?_
  show (if x=v then some w else f.up x)=none
  rw [if_neg (fun e=>hr (by rw [e];exact h.root_top hvn hv))]
  exact h1
 | @step x u k h1 h2 ih =>
  intro hr
  refine .step (u:=u) ?_ (ih (h.lt x u hx h1) (by rw [← h.root_step hx h1];exact hr))
  show (if x=v then some w else f.up x)=some u
  rw [if_neg (fun e=>by rw [e,hv] at h1;cases h1)]
  exact h1
theorem link_dp2 (h:Good f) {v w j:Nat} (hv:f.up v=none) (hvn:v<f.v.length) (hw:Dp (linkF f v w).up w j):∀ {x k:Nat},x<f.v.length→Dp f.up x k→root f x=some v→Dp (linkF f v w).up x (k+j+1):=by
 intro x k hx hd
 induction hd with
 | @top x h1 =>
  intro hr
  rw [h.root_top hx h1] at hr
  cases hr
  rw [Nat.zero_add]
  exact .step (u:=w) (by simp [linkF]) hw
 | @step x u k h1 h2 ih =>
  intro hr
  have:=ih (h.lt x u hx h1) (by rw [← h.root_step hx h1];exact hr)
  rw [show k+1+j+1=(k+j+1)+1 by omega]
  refine .step (u:=u) ?_ this
  show (if x=v then some w else f.up x)=some u
  rw [if_neg (fun e=>by rw [e,hv] at h1;cases h1)]
  exact h1
theorem good_link (h:Good f) {v w:Nat} (hvn:v<f.v.length) (hwn:w<f.v.length) (hv:f.up v=none) (hne:root f w≠some v):Good (linkF f v w):=by
 refine ⟨fun x u hx hu=>?_,fun x hx=>?_,fun x hx=>?_,h.bnd,h.small⟩
 ·have hx':x<f.v.length:=hx
  have hu':(if x=v then some w else f.up x)=some u:=hu
  split at hu'
  ·cases hu';exact hwn
  ·exact h.lt x u hx' hu'
 ·have hx':f.v.length≤x:=hx
  show (if x=v then some w else f.up x)=none
  rw [if_neg (by omega)];exact h.out x hx'
 ·have hx':x<f.v.length:=hx
  obtain ⟨k,hk⟩:=h.dep x hx'
  obtain ⟨j,hj⟩:=h.dep w hwn
  have hw:=link_dp h (w:=w) hv hvn hwn hj hne
  by_cases c:root f x=some v
  ·exact ⟨_,link_dp2 h hv hvn hw hx' hk c⟩
  ·exact ⟨_,link_dp h hv hvn hx' hk c⟩
def cutF (f:Ft) (v:Nat):Ft:=⟨f.v,fun x=>if x=v then none else f.up x⟩
theorem cut_dp {v:Nat}:∀ {x k:Nat},Dp f.up x k→∃ j,Dp (cutF f v).up x j:=by
 intro x k hd
 induction hd with
 | @top x h1 =>
  refine ⟨0,.top ?_⟩
  show (if x=v then none else f.up x)=none
  split
  ·rfl
  ·exact h1
 | @step x u k h1 _ ih =>
  by_cases c:x=v
  ·refine ⟨0,.top ?_⟩
   show (if x=v then none else f.up x)=none
   rw [if_pos c]
  ·obtain ⟨j,hj⟩:=ih
   refine ⟨j+1,.step (u:=u) ?_ hj⟩
   show (if x=v then none else f.up x)=some u
   rw [if_neg c];exact h1
theorem good_cut (h:Good f) (v:Nat):Good (cutF f v):=by
 refine ⟨fun x u hx hu=>?_,fun x hx=>?_,fun x hx=>?_,h.bnd,h.small⟩
 ·have hu':(if x=v then none else f.up x)=some u:=hu
  split at hu'
  ·cases hu'
  ·exact h.lt x u hx hu'
 ·show (if x=v then none else f.up x)=none
  split
  ·rfl
  ·exact h.out x hx
 ·obtain ⟨k,hk⟩:=h.dep x hx
  exact cut_dp hk
end
end Fo
namespace Fo
def sz (f:Ft) (x:Nat):Nat:=(List.range f.v.length).countP fun y=>decide (x∈path f y)
theorem count_two {l:List Nat} {p q r:Nat→Bool} (hp:∀ y∈l,p y=true→r y=true) (hq:∀ y∈l,q y=true→r y=true) (hd:∀ y∈l,¬ (p y=true∧q y=true)):l.countP p+l.countP q≤l.countP r:=by
 induction l with
 | nil=>simp
 | cons a l ih =>
  have ih':=ih (fun y hy=>hp y (List.mem_cons_of_mem _ hy)) (fun y hy=>hq y (List.mem_cons_of_mem _ hy)) (fun y hy=>hd y (List.mem_cons_of_mem _ hy))
  have h1:=hp a (by simp)
  have h2:=hq a (by simp)
  have h3:=hd a (by simp)
  simp only [List.countP_cons]
  cases e1:p a <;> cases e2:q a <;> cases e3:r a <;> simp_all <;> omega
theorem count_three {l:List Nat} {p q r:Nat→Bool} {x:Nat} (hx:x∈l) (hp:∀ y∈l,p y=true→r y=true) (hq:∀ y∈l,q y=true→r y=true) (hd:∀ y∈l,¬ (p y=true∧q y=true)) (h0:r x=true∧p x=false∧q x=false):l.countP p+l.countP q+1≤l.countP r:=by
 have h1:=count_two (l:=l) (p:=fun y=>p y || q y) (q:=fun y=>decide (y=x)) (r:=r) (fun y hy e=>by
  have e':p y=true∨q y=true:=by simpa using e
  rcases e' with c | c
  ·exact hp y hy c
  ·exact hq y hy c) (fun y hy e=>by
   have:y=x:=by simpa using e
   rw [this];exact h0.1) (fun y hy e=>by
   have:y=x:=by simpa using e.2
   have h2:=e.1
   rw [this] at h2
   simp [h0.2.1,h0.2.2] at h2)
 have h2:=count_two (l:=l) (p:=p) (q:=q) (r:=fun y=>p y || q y) (fun y hy e=>by simp [e]) (fun y hy e=>by simp [e]) hd
 have h3:1≤l.countP (fun y=>decide (y=x)):=List.countP_pos_iff.2 ⟨x,hx,by simp⟩
 omega
section
variable {f:Ft}
theorem Good.up_on (h:Good f) {c u y:Nat} (hc:c<f.v.length) (hu:f.up c=some u) (hy:c∈path f y):u∈path f y:=by
 have h1:=h.path_pre hy
 rw [h.path_step hc hu] at h1
 exact h1.subset (List.mem_append_left _ (h.path_self (h.lt c u hc hu)))
theorem Good.not_up (h:Good f) {c u:Nat} (hc:c<f.v.length) (hu:f.up c=some u):c ∉ path f u:=fun e=>by
 have hn:=h.path_nodup c
 rw [h.path_step hc hu] at hn
 exact (List.nodup_append.1 hn).2.2 c e c (by simp) rfl
theorem Good.sz_two (h:Good f) {c d u:Nat} (hc:c<f.v.length) (hd:d<f.v.length) (hcu:f.up c=some u) (hdu:f.up d=some u) (hne:c≠d):sz f c+sz f d+1≤sz f u:=by
 have hun:=h.lt c u hc hcu
 refine count_three (x:=u) (by simpa using hun) (fun y _ e=>?_) (fun y _ e=>?_) (fun y _ e=>?_) ⟨?_,?_,?_⟩
 ·simp only [decide_eq_true_eq] at e ⊢;exact h.up_on hc hcu e
 ·simp only [decide_eq_true_eq] at e ⊢;exact h.up_on hd hdu e
 ·simp only [decide_eq_true_eq] at e
  have h1:=h.path_pre e.1
  have h2:=h.path_pre e.2
  rw [h.path_step hc hcu] at h1
  rw [h.path_step hd hdu] at h2
  have h3:=List.prefix_of_prefix_length_le h1 h2 (by simp)
  have h4:=h3.eq_of_length (by simp)
  exact hne (by simpa using h4)
 ·simp only [decide_eq_true_eq];exact h.path_self hun
 ·simp only [decide_eq_false_iff_not];exact h.not_up hc hcu
 ·simp only [decide_eq_false_iff_not];exact h.not_up hd hdu
theorem Good.sz_one (h:Good f) {c u:Nat} (hc:c<f.v.length) (hcu:f.up c=some u):sz f c+1≤sz f u:=by
 have hun:=h.lt c u hc hcu
 have:=count_three (l:=List.range f.v.length) (p:=fun y=>decide (c∈path f y)) (q:=fun _=>false) (r:=fun y=>decide (u∈path f y)) (x:=u) (by simpa using hun) (fun y _ e=>by
  simp only [decide_eq_true_eq] at e ⊢;exact h.up_on hc hcu e) (fun y _ e=>by cases e) (fun y _ e=>by cases e.2) ⟨by simp only [decide_eq_true_eq];exact h.path_self hun,by simp only [decide_eq_false_iff_not];exact h.not_up hc hcu,rfl⟩
 simpa [sz] using this
theorem Good.sz_pos (h:Good f) {x:Nat} (hx:x<f.v.length):1≤sz f x:=List.countP_pos_iff.2 ⟨x,by simpa using hx,by simpa using h.path_self hx⟩
theorem sz_le (f:Ft) (x:Nat):sz f x≤f.v.length:=by
 have:=List.countP_le_length (p:=fun y=>decide (x∈path f y)) (l:=List.range f.v.length)
 simpa [sz] using this
def heavy (f:Ft) (c:Nat):Bool:=match f.up c with | none=>false | some u=>decide (sz f u<2*sz f c)
theorem Good.heavy_one (h:Good f) {c d u:Nat} (hc:c<f.v.length) (hd:d<f.v.length) (hcu:f.up c=some u) (hdu:f.up d=some u) (h1:heavy f c=true) (h2:heavy f d=true):c=d:=by
 by_cases hne:c=d
 ·exact hne
 ·have:=h.sz_two hc hd hcu hdu hne
  simp only [heavy,hcu,hdu,decide_eq_true_eq] at h1 h2
  omega
def lights (f:Ft) (l:List Nat):Nat:=l.countP fun c=>(f.up c).isSome && !heavy f c
theorem Good.lights_le (h:Good f) {x k:Nat} (hx:x<f.v.length) (hd:Dp f.up x k):lights f (path f x)+(sz f x).log2≤(f.v.length).log2:=by
 induction hd with
 | @top x h1 =>
  rw [h.path_top hx h1]
  have h2:lights f [x]=0:=by simp [lights,h1]
  rw [h2,Nat.zero_add]
  exact St.log_mono (sz_le f x)
 | @step x u k h1 _ ih =>
  have hun:=h.lt x u hx h1
  have ih':=ih hun
  have hs:=h.sz_one hx h1
  rw [h.path_step hx h1]
  have h2:lights f (path f u ++ [x])=lights f (path f u)+(if heavy f x=true then 0 else 1):=by
   simp only [lights,List.countP_append]
   cases e:heavy f x <;> simp [h1,e]
  rw [h2]
  have hp:=h.sz_pos hx
  by_cases c:heavy f x=true
  ·rw [if_pos c]
   have:=St.log_mono (a:=sz f x) (b:=sz f u) (by omega)
   omega
  ·rw [if_neg c]
   have c':2*sz f x≤sz f u:=by
    simp only [heavy,h1,decide_eq_true_eq] at c
    omega
   have h3:(2*sz f x).log2=(sz f x).log2+1:=by rw [Nat.log2_two_mul (by omega)]
   have:=St.log_mono c'
   omega
end
end Fo
namespace Fo
section
variable {f:Ft}
theorem count_one {l:List Nat} (hn:l.Nodup) {p:Nat→Bool} (h:∀ a∈l,∀ b∈l,p a=true→p b=true→a=b):l.countP p≤1:=by
 induction l with
 | nil=>simp
 | cons a l ih =>
  have hn':=List.nodup_cons.1 hn
  have ih':=ih hn'.2 (fun x hx y hy=>h x (List.mem_cons_of_mem _ hx) y (List.mem_cons_of_mem _ hy))
  rw [List.countP_cons]
  by_cases e:p a=true
  ·rw [if_pos e]
   have:l.countP p=0:=List.countP_eq_zero.2 fun b hb e2=>by
    have:=h a (by simp) b (List.mem_cons_of_mem _ hb) e e2
    subst this
    exact hn'.1 hb
   omega
  ·rw [if_neg e];omega
theorem count_split {l:List Nat} {p q r:Nat→Bool} (h:∀ c∈l,p c=true→q c=true∨r c=true):l.countP p≤l.countP q+l.countP r:=by
 induction l with
 | nil=>simp
 | cons a l ih =>
  have ih':=ih fun c hc=>h c (List.mem_cons_of_mem _ hc)
  have h1:=h a (by simp)
  simp only [List.countP_cons]
  cases e1:p a <;> cases e2:q a <;> cases e3:r a <;> simp_all <;> omega
def hung (f:Ft) (x c:Nat):Bool:=decide (c ∉ path f x) && (match f.up c with | none=>false | some u=>decide (u∈path f x)) && heavy f c
def hangs (f:Ft) (x:Nat):Nat:=(List.range f.v.length).countP (hung f x)
theorem hung_iff (x c:Nat):hung f x c=true↔c ∉ path f x∧(∃ u,f.up c=some u∧u∈path f x)∧heavy f c=true:=by
 unfold hung
 cases e:f.up c with
 | none=>simp
 | some u=>simp [and_assoc]
theorem Good.one_child (h:Good f) (x:Nat):(List.range f.v.length).countP (fun c=>decide (f.up c=some x) && heavy f c)≤1:=by
 refine count_one List.nodup_range fun a ha b hb ea eb=>?_
 simp only [List.mem_range] at ha hb
 simp only [Bool.and_eq_true,decide_eq_true_eq] at ea eb
 exact h.heavy_one ha hb ea.1 eb.1 ea.2 eb.2
theorem Good.hangs_le (h:Good f) {x k:Nat} (hx:x<f.v.length) (hd:Dp f.up x k):hangs f x≤lights f (path f x)+1:=by
 induction hd with
 | @top x h1 =>
  refine Nat.le_trans (List.countP_mono_left fun c _ hc=>?_) (Nat.le_trans (h.one_child x) (by omega))
  rw [hung_iff,h.path_top hx h1] at hc
  obtain ⟨_,⟨u,e1,e2⟩,e3⟩:=hc
  simp at e2
  subst e2
  simp [e1,e3]
 | @step x u k h1 h2 ih =>
  have hun:=h.lt x u hx h1
  have ih':=ih hun
  have hp:=h.path_step hx h1
  have hxu:=h.not_up hx h1
  have hl:lights f (path f x)=lights f (path f u)+(if heavy f x=true then 0 else 1):=by
   rw [hp]
   simp only [lights,List.countP_append]
   cases e:heavy f x <;> simp [h1,e]
  have c1:hangs f x≤(List.range f.v.length).countP (fun c=>hung f x c && !decide (f.up c=some x))+(List.range f.v.length).countP (fun c=>decide (f.up c=some x) && heavy f c):=by
   have:=count_split (l:=List.range f.v.length) (p:=hung f x) (q:=fun c=>hung f x c && !decide (f.up c=some x)) (r:=fun c=>decide (f.up c=some x) && heavy f c) (fun c _ e=>by
    by_cases e2:f.up c=some x
    ·right;have:=(hung_iff x c).1 e;simp [e2,this.2.2]
    ·left;simp [e,e2])
   exact this
  have c2:=h.one_child x
  have c3:(List.range f.v.length).countP (fun c=>hung f x c && !decide (f.up c=some x))+(List.range f.v.length).countP (fun c=>decide (c=x) && heavy f x)≤hangs f u:=by
   refine count_two (fun c _ e=>?_) (fun c _ e=>?_) (fun c _ e=>?_)
   ·simp only [Bool.and_eq_true,Bool.not_eq_true',decide_eq_false_iff_not] at e
    obtain ⟨e1,⟨w,e2,e3⟩,e4⟩:=(hung_iff x c).1 e.1
    rw [hp] at e1 e3
    refine (hung_iff u c).2 ⟨fun c2=>e1 (List.mem_append_left _ c2),⟨w,e2,?_⟩,e4⟩
    rcases List.mem_append.1 e3 with c2 | c2
    ·exact c2
    ·simp at c2;exact absurd (by rw [e2,c2]) e.2
   ·simp only [Bool.and_eq_true,decide_eq_true_eq] at e
    rw [e.1]
    exact (hung_iff u x).2 ⟨hxu,⟨u,h1,h.path_self hun⟩,e.2⟩
   ·simp only [Bool.and_eq_true,decide_eq_true_eq] at e
    have:=(hung_iff x c).1 e.1.1
    rw [e.2.1] at this
    exact this.1 (h.path_self hx)
  have c4:(if heavy f x=true then 1 else 0)≤(List.range f.v.length).countP (fun c=>decide (c=x) && heavy f x):=by
   split
   ·rename_i e;exact List.countP_pos_iff.2 ⟨x,by simpa using hx,by simp [e]⟩
   ·omega
  rw [hl]
  split at c4 <;> rename_i e
  ·rw [if_pos e];omega
  ·rw [if_neg e];omega
def idle (f:Ft) (pf:Nat→Bool):Nat:=(List.range f.v.length).countP fun c=>heavy f c && !pf c
def turns (f:Ft) (pf:Nat→Bool) (x:Nat):Nat:=(path f x).countP fun c=>(f.up c).isSome && !pf c
theorem count_path (h:Good f) {x:Nat} (p:Nat→Bool):(path f x).countP p=(List.range f.v.length).countP (fun c=>decide (c∈path f x) && p c):=by
 have e:(path f x).Perm ((List.range f.v.length).filter fun c=>decide (c∈path f x)):=by
  refine (List.perm_ext_iff_of_nodup (h.path_nodup x) (List.nodup_range.filter _)).2 fun c=>?_
  simp only [List.mem_filter,List.mem_range,decide_eq_true_eq]
  exact ⟨fun hc=>⟨h.path_lt hc,hc⟩,fun hc=>hc.2⟩
 rw [e.countP_eq,List.countP_filter]
 congr 1
 funext c
 exact Bool.and_comm _ _
theorem Good.access (h:Good f) {x:Nat} (hx:x<f.v.length) {pf pf':Nat→Bool} (h1:∀ c,c<f.v.length→c∈path f x→(f.up c).isSome=true→pf' c=true)
  (h2:∀ c,c<f.v.length→c ∉ path f x→(∀ u,f.up c=some u→u ∉ path f x)→pf' c=pf c) :
  turns f pf x+idle f pf'≤idle f pf+2*lights f (path f x)+1:=by
 obtain ⟨k,hk⟩:=h.dep x hx
 have hh:=h.hangs_le hx hk
 have t1:turns f pf x≤lights f (path f x)+(List.range f.v.length).countP (fun c=>decide (c∈path f x) && (heavy f c && !pf c)):=by
  rw [← count_path h]
  refine count_split fun c _ e=>?_
  cases e2:heavy f c <;> simp_all
 have t2:idle f pf'≤hangs f x+(List.range f.v.length).countP (fun c=>!decide (c∈path f x) && (heavy f c && !pf c)):=by
  refine count_split fun c hc e=>?_
  have hcn:c<f.v.length:=by simpa using hc
  simp only [Bool.and_eq_true,Bool.not_eq_true'] at e
  have hup:(f.up c).isSome=true:=by
   have:=e.1
   unfold heavy at this
   cases e2:f.up c with
   | none=>rw [e2] at this;cases this
   | some u=>rfl
  have hnp:c ∉ path f x:=fun c2=>by have:=h1 c hcn c2 hup;rw [e.2] at this;cases this
  by_cases c3:∃ u,f.up c=some u∧u∈path f x
  ·left;exact (hung_iff x c).2 ⟨hnp,c3,e.1⟩
  ·right
   have:=h2 c hcn hnp (fun u hu hm=>c3 ⟨u,hu,hm⟩)
   simp [hnp,e.1,← this,e.2]
 have t3:(List.range f.v.length).countP (fun c=>decide (c∈path f x) && (heavy f c && !pf c))+(List.range f.v.length).countP (fun c=>!decide (c∈path f x) && (heavy f c && !pf c))≤idle f pf :=
  count_two (fun c _ e=>by simp only [Bool.and_eq_true] at e;simpa using e.2) (fun c _ e=>by simp only [Bool.and_eq_true] at e;simpa using e.2) (fun c _ e=>by
   obtain ⟨e1,e2⟩:=e
   simp only [Bool.and_eq_true,Bool.not_eq_true',decide_eq_true_eq,decide_eq_false_iff_not] at e1 e2
   exact e2.1 e1.1)
 omega
end
end Fo
namespace Fo
section
variable {f f':Ft}
def Up (f:Ft) (S:Nat→Prop):Prop:=∀ y u,f.up y=some u→S y→S u
structure Near (f f':Ft) (S:Nat→Prop):Prop where
 len:f'.v.length=f.v.length
 up:Up f S
 up':Up f' S
 dif:∀ y,f.up y=f'.up y∨((∀ u,f.up y=some u→S u)∧∀ u,f'.up y=some u→S u)
theorem Near.symm {S:Nat→Prop} (h:Near f f' S):Near f' f S:=⟨h.len.symm,h.up',h.up,fun y=>(h.dif y).elim (fun e=>.inl e.symm) fun e=>.inr ⟨e.2,e.1⟩⟩
theorem Good.path_in (h:Good f) {S:Nat→Prop} (hS:Up f S) {y k:Nat} (hy:y<f.v.length) (hd:Dp f.up y k) (hs:S y):∀ c∈path f y,S c:=by
 induction hd with
 | @top y h1=>intro c hc;rw [h.path_top hy h1] at hc;simp at hc;rw [hc];exact hs
 | @step y u k h1 _ ih =>
  intro c hc
  rw [h.path_step hy h1] at hc
  rcases List.mem_append.1 hc with e | e
  ·exact ih (h.lt y u hy h1) (hS y u h1 hs) c e
  ·simp at e;rw [e];exact hs
theorem Near.path_mem {S:Nat→Prop} (n:Near f f' S) (h:Good f) (h':Good f') {c:Nat} (hc:¬ S c) {y k:Nat} (hy:y<f.v.length) (hd:Dp f.up y k):c∈path f y→c∈path f' y:=by
 induction hd with
 | @top y h1 =>
  intro e
  rw [h.path_top hy h1] at e
  simp at e
  rw [e]
  exact h'.path_self (by rw [n.len];exact hy)
 | @step y u k h1 hk ih =>
  intro e
  have hun:=h.lt y u hy h1
  rw [h.path_step hy h1] at e
  rcases List.mem_append.1 e with e | e
  ·rcases n.dif y with e2 | e2
   ·rw [h'.path_step (by rw [n.len];exact hy) (by rw [← e2];exact h1)]
    exact List.mem_append_left _ (ih hun e)
   ·exact absurd (h.path_in n.up hun hk (e2.1 u h1) c e) hc
  ·simp at e
   rw [e]
   exact h'.path_self (by rw [n.len];exact hy)
theorem Near.sz_eq {S:Nat→Prop} (n:Near f f' S) (h:Good f) (h':Good f') {c:Nat} (hc:¬ S c):sz f' c=sz f c:=by
 unfold sz
 rw [n.len]
 refine List.countP_congr fun y hy=>?_
 have hy':y<f.v.length:=by simpa using hy
 simp only [decide_eq_true_eq]
 obtain ⟨k,hk⟩:=h.dep y hy'
 obtain ⟨j,hj⟩:=h'.dep y (by rw [n.len];exact hy')
 exact ⟨n.symm.path_mem h' h hc (by rw [n.len];exact hy') hj,n.path_mem h h' hc hy' hk⟩
theorem Near.idle_le {x:Nat} (n:Near f f' (fun c=>c∈path f' x)) (h:Good f) (h':Good f') (hx:x<f.v.length) {pf pf':Nat→Bool}
  (h1:∀ c,c<f.v.length→c∈path f' x→(f'.up c).isSome=true→pf' c=true)
  (h2:∀ c,c<f.v.length→c ∉ path f' x→(∀ u,f'.up c=some u→u ∉ path f' x)→(f'.up c).isSome=true→pf' c=pf c) :
  idle f' pf'≤idle f pf+lights f' (path f' x)+1:=by
 have hx':x<f'.v.length:=by rw [n.len];exact hx
 obtain ⟨k,hk⟩:=h'.dep x hx'
 have hh:=h'.hangs_le hx' hk
 have t2:idle f' pf'≤hangs f' x+(List.range f'.v.length).countP (fun c=>heavy f c && !pf c):=by
  refine count_split fun c hc e=>?_
  have hcn':c<f'.v.length:=by simpa using hc
  have hcn:c<f.v.length:=by rw [← n.len];exact hcn'
  simp only [Bool.and_eq_true,Bool.not_eq_true'] at e
  obtain ⟨u,hu⟩:∃ u,f'.up c=some u:=by
   have:=e.1
   unfold heavy at this
   cases e2:f'.up c with
   | none=>rw [e2] at this;cases this
   | some u=>exact ⟨u,rfl⟩
  have hnp:c ∉ path f' x:=fun c2=>by have:=h1 c hcn c2 (by rw [hu];rfl);rw [e.2] at this;cases this
  by_cases c3:u∈path f' x
  ·left;exact (hung_iff x c).2 ⟨hnp,⟨u,hu,c3⟩,e.1⟩
  ·right
   have g1:=h2 c hcn hnp (fun w hw=>by rw [hu] at hw;cases hw;exact c3) (by rw [hu];rfl)
   have g2:f.up c=some u:=by
    rcases n.dif c with g | g
    ·rw [g];exact hu
    ·exact absurd (g.2 u hu) c3
   have g3:=n.sz_eq h h' (c:=c) hnp
   have g4:=n.sz_eq h h' (c:=u) c3
   have g5:heavy f c=true:=by
    have:=e.1
    simp only [heavy,hu,g3,g4] at this
    simp only [heavy,g2];exact this
   simp [g5,← g1,e.2]
 rw [n.len] at t2
 have t3:(List.range f.v.length).countP (fun c=>heavy f c && !pf c)=idle f pf:=rfl
 omega
theorem near_link (h:Good f) {v w:Nat} (hv:f.up v=none) (hwn:w<f.v.length) (hvn:v<f.v.length) (hne:root f w≠some v):path (linkF f v w) w=path f w∧Near f (linkF f v w) (fun c=>c∈path (linkF f v w) w):=by
 have h':=good_link h hvn hwn hv hne
 obtain ⟨k,hk⟩:=h.dep w hwn
 have e:path (linkF f v w) w=path f w:=by
  have g:∀ {x k:Nat},x<f.v.length→Dp f.up x k→root f x≠some v→path (linkF f v w) x=path f x:=by
   intro x k hx hd
   induction hd with
   | @top x h1 =>
    intro hr
    have hxv:x≠v:=fun e=>hr (by rw [e];exact h.root_top hvn hv)
    rw [h.path_top hx h1,h'.path_top hx (by simp [linkF,hxv,h1])]
   | @step x u k h1 _ ih =>
    intro hr
    have hxv:x≠v:=fun e=>by rw [e,hv] at h1;cases h1
    rw [h.path_step hx h1,h'.path_step hx (u:=u) (by simp [linkF,hxv,h1]),ih (h.lt x u hx h1) (by rw [← h.root_step hx h1];exact hr)]
  exact g hwn hk hne
 refine ⟨e,rfl,fun y u hu hy=>?_,fun y u hu hy=>?_,fun y=>?_⟩
 ·simp only [e] at hy ⊢
  exact h.up_on (h.path_lt hy) hu hy
 ·exact h'.up_on (h'.path_lt hy) hu hy
 ·by_cases c:y=v
  ·right
   refine ⟨fun u hu=>(by rw [c,hv] at hu;cases hu),fun u hu=>?_⟩
   simp [linkF,c] at hu
   rw [← hu]
   exact h'.path_self hwn
  ·left;simp [linkF,c]
theorem near_cut (h:Good f) {v u:Nat} (hvn:v<f.v.length) (hv:f.up v=some u):path (cutF f v) u=path f u∧Near f (cutF f v) (fun c=>c∈path (cutF f v) u):=by
 have h':=good_cut h v
 have hun:=h.lt v u hvn hv
 obtain ⟨k,hk⟩:=h.dep u hun
 have g:∀ {x k:Nat},x<f.v.length→Dp f.up x k→v ∉ path f x→path (cutF f v) x=path f x:=by
  intro x k hx hd
  induction hd with
  | @top x h1 =>
   intro _
   rw [h.path_top hx h1,h'.path_top hx (by simp [cutF,h1])]
  | @step x w k h1 _ ih =>
   intro hr
   have hxv:x≠v:=fun e=>hr (by rw [e];exact h.path_self hvn)
   rw [h.path_step hx h1] at hr
   rw [h.path_step hx h1,h'.path_step hx (u:=w) (by simp [cutF,hxv,h1]),ih (h.lt x w hx h1) (fun c=>hr (List.mem_append_left _ c))]
 have e:=g hun hk (h.not_up hvn hv)
 refine ⟨e,rfl,fun y w hw hy=>?_,fun y w hw hy=>?_,fun y=>?_⟩
 ·simp only [e] at hy ⊢
  exact h.up_on (h.path_lt hy) hw hy
 ·exact h'.up_on (h'.path_lt hy) hw hy
 ·by_cases c:y=v
  ·right
   refine ⟨fun w hw=>?_,fun w hw=>(by simp [cutF,c] at hw)⟩
   rw [c,hv] at hw
   cases hw
   exact h'.path_self hun
  ·left;simp [cutF,c]
end
end Fo
namespace Fo
def there (f:Ft) (x:Int):Prop:=0≤x∧x<(f.v.length:Int)
instance (f:Ft) (x:Int):Decidable (there f x):=by unfold there;infer_instance
def oz:Option Nat→Int | none=>-1 | some u=>(u:Int)
def aboveZ (f:Ft) (x:Int):Int:=if there f x then oz (f.up x.toNat) else -1
def pathZ (f:Ft) (x:Int):List Nat:=if x<0 then [] else path f x.toNat
def rootZ (f:Ft) (x:Int):Int:=match pathZ f x with | []=>-1 | a :: _=>(a:Int)
def valZ (f:Ft) (x:Int):Int:=if x<0 then 0 else Ne.amt f.v x.toNat
def leastZ (f:Ft) (x:Int):Int:=Sp.leastL f.v (pathZ f x)
def linkE (f:Ft) (v w:Int):Int:=if ¬ there f v∨¬ there f w then 4 else if (f.up v.toNat).isSome=true then 9 else if rootZ f w=v then 5 else 0
def linkS (f:Ft) (v w:Int):Ft:=if linkE f v w=0 then linkF f v.toNat w.toNat else f
def cutE (f:Ft) (v:Int):Int:=if ¬ there f v then 4 else if f.up v.toNat=none then 9 else 0
def cutS (f:Ft) (v:Int):Ft:=if cutE f v=0 then cutF f v.toNat else f
def addE (f:Ft) (v d:Int):Int:=if pathZ f v=[] then 4 else if ∀ i∈pathZ f v,Sp.fits (Ne.amt f.v i) d=true then 0 else 3
def addS (f:Ft) (v d:Int):Ft:=if addE f v d=0 then ⟨Sp.addL f.v (pathZ f v) d,f.up⟩ else f
def newS (vs:List Int):Ft:=⟨vs,fun _=>none⟩
section
variable {f:Ft}
theorem pathZ_nat (f:Ft) (x:Nat):pathZ f (x:Int)=path f x:=by unfold pathZ;rw [if_neg (by omega)];simp
theorem Good.pathZ_nil (h:Good f) {x:Int}:pathZ f x=[]↔¬ there f x:=by
 unfold pathZ there
 by_cases c:x<0
 ·rw [if_pos c];simp;omega
 ·rw [if_neg c]
  constructor
  ·intro e c2
   have:=h.path_self (x:=x.toNat) (by omega)
   rw [e] at this;simp at this
  ·intro e
   unfold path
   rw [if_neg (by omega)]
theorem good_new {vs:List Int} (h:Sp.newE vs=0):Good (newS vs) :=
 ⟨fun x u _ hu=>(by cases hu),fun x _=>rfl,fun x _=>⟨0,.top rfl⟩,(Sp.good_new h).bnd,(Sp.good_new h).small⟩
theorem Good.rootZ_eq (h:Good f) {x:Nat} (hx:x<f.v.length):∃ r,root f x=some r∧rootZ f (x:Int)=(r:Int)∧r<f.v.length∧f.up r=none:=by
 obtain ⟨k,hk⟩:=h.dep x hx
 obtain ⟨r,g1,g2,g3⟩:=h.dp_root hx hk
 refine ⟨r,g1,?_,g2,g3⟩
 unfold rootZ
 rw [pathZ_nat]
 unfold root at g1
 cases e:path f x with
 | nil=>rw [e] at g1;cases g1
 | cons a l=>rw [e] at g1;cases g1;rfl
theorem good_linkS (h:Good f) (v w:Int):Good (linkS f v w):=by
 unfold linkS
 split
 ·rename_i e
  unfold linkE at e
  split at e
  ·cases e
  ·rename_i h1
   split at e
   ·cases e
   ·rename_i h2
    split at e
    ·cases e
    ·rename_i h3
     have hv:there f v:=Classical.byContradiction fun c=>h1 (.inl c)
     have hw:there f w:=Classical.byContradiction fun c=>h1 (.inr c)
     obtain ⟨v1,v2⟩:=hv
     obtain ⟨w1,w2⟩:=hw
     have hwn:w.toNat<f.v.length:=by omega
     obtain ⟨r,g1,g2,_⟩:=h.rootZ_eq hwn
     rw [show ((w.toNat:Nat):Int)=w by omega] at g2
     refine good_link h (by omega) hwn ?_ (fun c=>h3 ?_)
     ·cases e2:f.up v.toNat with
      | none=>rfl
      | some u=>rw [e2] at h2;simp at h2
     ·rw [g2]
      rw [g1] at c
      cases c
      omega
 ·exact h
theorem addE_fits {v d:Int} (e:addE f v d=0):pathZ f v≠[]∧∀ i∈pathZ f v,Sp.fits (Ne.amt f.v i) d=true:=by
 unfold addE at e
 split at e
 ·cases e
 ·split at e
  ·rename_i h1 h2;exact ⟨h1,h2⟩
  ·cases e
theorem good_addS (h:Good f) (v d:Int):Good (addS f v d):=by
 unfold addS
 split
 ·rename_i e
  have hl:=Sp.addL_len f.v (pathZ f v) d
  refine ⟨fun x u hx hu=>?_,fun x hx=>?_,fun x hx=>?_,fun i hi=>?_,?_⟩
  ·show u<(Sp.addL f.v (pathZ f v) d).length
   rw [hl];exact h.lt x u (by have:x<(Sp.addL f.v (pathZ f v) d).length:=hx;omega) hu
  ·exact h.out x (by have:(Sp.addL f.v (pathZ f v) d).length≤x:=hx;omega)
  ·exact h.dep x (by have:x<(Sp.addL f.v (pathZ f v) d).length:=hx;omega)
  ·have hi':i<f.v.length:=by have:i<(Sp.addL f.v (pathZ f v) d).length:=hi;omega
   show -Sp.big≤Ne.amt (Sp.addL f.v (pathZ f v) d) i∧_
   rw [Sp.addL_at hi']
   split
   ·rename_i c
    exact (Sp.fits_iff _ _ (h.bnd i hi')).1 ((addE_fits e).2 i c)
   ·exact h.bnd i hi'
  ·show (Sp.addL f.v (pathZ f v) d).length≤3000
   rw [hl];exact h.small
 ·exact h
end
end Fo
end Go.Proofs.YthhlfphnokdfaaaGreat
