/-
  Fpa, Fpb, Flp, Spo, Spf
-/
import Derived.Test.YthhlfphnokdfaaaGreatBf15
import Derived.Test.YthhlfphnokdfaaaGreatBf14
import Derived.Deep.LoopGhost
import Derived.Deep.DeepCutAuto
import Derived.WalkMore
import Derived.Deep.QuietTactic
import Derived.BigQuiet
set_option linter.unusedVariables false
set_option linter.unusedSimpArgs false
set_option maxRecDepth 100000
set_option maxHeartbeats 4000000
namespace Go.Proofs.YthhlfphnokdfaaaGreat
namespace Fo
def Pv (l:List Nat) (a b:Nat):Prop:=∃ A C,l=A ++ a :: b :: C
theorem Pv.left {l1 l2:List Nat} {a b:Nat} (h:Pv l1 a b):Pv (l1 ++ l2) a b:=by obtain ⟨A,C,rfl⟩:=h;exact ⟨A,C ++ l2,by simp⟩
theorem Pv.right {l1 l2:List Nat} {a b:Nat} (h:Pv l2 a b):Pv (l1 ++ l2) a b:=by obtain ⟨A,C,rfl⟩:=h;exact ⟨l1 ++ A,C,by simp⟩
theorem Pv.app {l1 l2:List Nat} {a b:Nat} (h:Pv (l1 ++ l2) a b):Pv l1 a b∨Pv l2 a b∨(l1.getLast? = some a∧l2.head? = some b):=by
 obtain ⟨A,C,e⟩:=h
 rcases List.append_eq_append_iff.1 e with ⟨a',h1,h2⟩ | ⟨c',h1,h2⟩
 ·right;left;exact ⟨a',C,h2⟩
 ·rcases c' with _ | ⟨x,c'⟩
  ·simp at h1 h2
   right;left;exact ⟨[],C,by rw [← h2];rfl⟩
  ·simp at h2
   obtain ⟨rfl,h2⟩:=h2
   rcases c' with _ | ⟨y,c'⟩
   ·right;right
    simp at h2
    refine ⟨by rw [h1];simp,by rw [← h2];rfl⟩
   ·simp at h2
    obtain ⟨rfl,h2⟩:=h2
    left;exact ⟨A,c',h1⟩
theorem Pv.mem {l:List Nat} {a b:Nat} (h:Pv l a b):a∈l∧b∈l:=by obtain ⟨A,C,rfl⟩:=h;simp
theorem pv_of {l:List Nat} {b:Nat} (hb:b∈l) (hh:l.head?≠some b):∃ a,Pv l a b:=by
 obtain ⟨A,C,rfl⟩:=List.append_of_mem hb
 rcases List.eq_nil_or_concat A with rfl | ⟨A',a,rfl⟩
 ·simp at hh
 ·exact ⟨a,A',C,by simp⟩
theorem pv_no_head {l:List Nat} (hn:l.Nodup) {a b:Nat} (h:Pv l a b):l.head?≠some b:=by
 obtain ⟨A,C,rfl⟩:=h
 intro e
 rcases A with _ | ⟨x,A⟩
 ·simp at e hn;exact hn.1.1 e
 ·simp at e hn;exact hn.1.2.2.1 e
def pf (s:Sp.St) (c:Nat):Bool:=decide ((s.r c).head?≠some c)
structure Rp (f:Ft) (s:Sp.St) (ov:Nat→Option Nat):Prop where
 val:s.v=f.v
 sg:Sp.Good s
 fg:Good f
 inn:∀ x a b,Pv (s.r x) a b→f.up b=some a∧ov b=none
 fst:∀ x a,(s.r x).head? = some a→f.up a=ov a
section
variable {f:Ft} {s:Sp.St} {ov:Nat→Option Nat}
theorem Rp.len (h:Rp f s ov):s.v.length=f.v.length:=by rw [h.val]
theorem Rp.mem (h:Rp f s ov) {x:Nat} (hx:x<f.v.length):x∈s.r x:=h.sg.mem x (by rw [h.len];exact hx)
theorem Rp.lt (h:Rp f s ov) {x y:Nat} (hy:y∈s.r x):y<f.v.length:=by rw [← h.len];exact h.sg.lt x y hy
theorem Rp.at (h:Rp f s ov) {c:Nat} (hc:c<f.v.length):(pf s c=false∧f.up c=ov c)∨(pf s c=true∧∃ a,Pv (s.r c) a c∧f.up c=some a∧ov c=none):=by
 by_cases e:(s.r c).head? = some c
 ·left;exact ⟨by simp [pf,e],h.fst c c e⟩
 ·right
  obtain ⟨a,ha⟩:=pv_of (h.mem hc) e
  exact ⟨by simp [pf,e],a,ha,(h.inn c a c ha).1,(h.inn c a c ha).2⟩
theorem Rp.suffix (h:Rp f s ov) {x:Nat}:∀ (k:Nat) (A:List Nat) (y:Nat) (C:List Nat),A.length=k→s.r x=A ++ y :: C→∃ X,path f y=X ++ (A ++ [y]):=by
 intro k
 induction k with
 | zero =>
  intro A y C hA e
  have hA':A=[]:=List.eq_nil_of_length_eq_zero hA
  subst hA'
  have hy:y<f.v.length:=h.lt (x:=x) (by rw [e];simp)
  cases hu:f.up y with
  | none=>exact ⟨[],by rw [h.fg.path_top hy hu];rfl⟩
  | some u=>exact ⟨path f u,by rw [h.fg.path_step hy hu];simp⟩
 | succ k ih =>
  intro A y C hA e
  rcases List.eq_nil_or_concat A with rfl | ⟨A',a,rfl⟩
  ·simp at hA
  ·simp at hA
   have e':s.r x=A' ++ a :: (y :: C):=by rw [e];simp
   obtain ⟨X,hX⟩:=ih A' a (y :: C) hA e'
   have hy:y<f.v.length:=h.lt (x:=x) (by rw [e];simp)
   have hu:=(h.inn x a y ⟨A',C,by rw [e']⟩).1
   exact ⟨X,by rw [h.fg.path_step hy hu,hX];simp⟩
theorem Rp.row_path (h:Rp f s ov) {v:Nat} {A C:List Nat} (e:s.r v=A ++ v :: C):∃ X,path f v=X ++ (A ++ [v]):=h.suffix A.length A v C rfl e
end
def nx (s:Sp.St) (v:Nat):Option Nat:=(s.r v)[(s.r v).idxOf v+1]?
theorem idx_mid {A C:List Nat} {v:Nat} (hn:(A ++ v :: C).Nodup):(A ++ v :: C).idxOf v=A.length:=by
 have:v ∉ A:=fun c=>(List.nodup_append.1 hn).2.2 v c v (by simp) rfl
 rw [List.idxOf_append,if_neg this];simp
theorem nx_at {s:Sp.St} (hg:Sp.Good s) {v:Nat} {A C:List Nat} (e:s.r v=A ++ v :: C):nx s v=C.head?:=by
 have hn:=hg.nodup v
 unfold nx
 rw [e] at hn ⊢
 rw [idx_mid hn,List.getElem?_append_right (by omega),show A.length+1-A.length=1 by omega]
 cases C <;> rfl
theorem beside_next {s:Sp.St} (hg:Sp.Good s) {v:Nat} (hv:v<s.v.length):Sp.atZ s (v:Int) (Sp.placeZ s (v:Int)+1)=oz (nx s v):=by
 unfold Sp.atZ Sp.placeZ nx Sp.atL
 rw [Sp.rowZ_nat,if_neg (hg.ne_nil hv),Int.toNat_natCast,if_neg (by omega),show ((((s.r v).idxOf v:Nat):Int)+1).toNat=(s.r v).idxOf v+1 by omega]
 cases (s.r v)[(s.r v).idxOf v+1]? <;> rfl
theorem beside_prev {f:Ft} {s:Sp.St} {ov:Nat→Option Nat} (h:Rp f s ov) {v:Nat} (hv:v<f.v.length) (hr:s.r v=path f v):Sp.atZ s (v:Int) (Sp.placeZ s (v:Int) + -1)=oz (f.up v):=by
 have hg:=h.sg
 unfold Sp.atZ Sp.placeZ Sp.atL
 rw [Sp.rowZ_nat,if_neg (hg.ne_nil (by rw [h.len];exact hv)),Int.toNat_natCast,hr]
 have hn:=h.fg.path_nodup v
 cases hu:f.up v with
 | none =>
  rw [h.fg.path_top hv hu]
  simp [oz]
 | some u =>
  rw [h.fg.path_step hv hu] at hn ⊢
  rw [idx_mid hn]
  have hp:=h.fg.path_self (h.fg.lt v u hv hu)
  cases hw:f.up u with
  | none =>
   rw [h.fg.path_top (h.fg.lt v u hv hu) hw]
   simp [oz]
  | some z =>
   rw [h.fg.path_step (h.fg.lt v u hv hu) hw]
   simp only [List.length_append,List.length_singleton]
   rw [if_neg (by omega),show ((((path f z).length+1:Nat):Int) + -1).toNat=(path f z).length by omega]
   simp [oz]
def partS (s:Sp.St) (v:Nat):Sp.St:=match nx s v with | none=>s | some u=>Sp.splitS s (u:Int)
def partO (s:Sp.St) (ov:Nat→Option Nat) (v:Nat):Nat→Option Nat:=match nx s v with | none=>ov | some u=>fun x=>if x=u then some v else ov x
theorem partS_v (s:Sp.St) (v:Nat):(partS s v).v=s.v:=by
 unfold partS
 split
 ·rfl
 ·rfl
theorem good_part (s:Sp.St) (hg:Sp.Good s) (v:Nat):Sp.Good (partS s v):=by
 unfold partS
 split
 ·exact hg
 ·exact Sp.good_split hg _
section
variable {s:Sp.St} {ov:Nat→Option Nat}
theorem part_r (hg:Sp.Good s) {v:Nat} {A C:List Nat} (e:s.r v=A ++ v :: C) (z:Nat):(partS s v).r z=if z∈A ++ [v] then A ++ [v] else if z∈C then C else s.r z:=by
 have hn:=hg.nodup v
 have hx:=nx_at hg e
 unfold partS
 cases C with
 | nil =>
  simp only [List.head?_nil] at hx
  rw [hx]
  show s.r z=_
  split
  ·rename_i c
   rw [← e] at c ⊢
   exact hg.same v z c
  ·rw [if_neg (by simp)]
 | cons u C =>
  simp only [List.head?_cons] at hx
  rw [hx]
  have hu:s.r u=A ++ v :: u :: C:=by rw [hg.same v u (by rw [e];simp),e]
  show (Sp.splitS s (u:Int)).r z=_
  unfold Sp.splitS Sp.cutR
  rw [Sp.rowZ_nat,Int.toNat_natCast,hu]
  have e2:A ++ v :: u :: C=(A ++ [v]) ++ u :: C:=by simp
  rw [e] at hn
  rw [e2] at hn ⊢
  rw [idx_mid hn,List.take_left,List.drop_left]
theorem part_o (hg:Sp.Good s) {v:Nat} {A C:List Nat} (e:s.r v=A ++ v :: C) (z:Nat):partO s ov v z=if C.head? = some z then some v else ov z:=by
 have hx:=nx_at hg e
 unfold partO
 cases C with
 | nil =>
  simp only [List.head?_nil] at hx
  rw [hx]
  simp
 | cons u C =>
  simp only [List.head?_cons] at hx
  rw [hx]
  show (if z=u then some v else ov z)=_
  by_cases c:z=u
  ·subst c;simp
  ·rw [if_neg c,if_neg (by simp;exact fun c2=>c c2.symm)]
end
theorem rp_part {f:Ft} {s:Sp.St} {ov:Nat→Option Nat} (h:Rp f s ov) {v:Nat} {A C:List Nat} (e:s.r v=A ++ v :: C):Rp f (partS s v) (partO s ov v):=by
 have hg:=h.sg
 have hr:=part_r hg e
 have ho:=part_o (ov:=ov) hg e
 have hnd:=hg.nodup v
 rw [e] at hnd
 refine ⟨by rw [partS_v];exact h.val,good_part s hg v,h.fg,fun x a b hp=>?_,fun x a hp=>?_⟩
 ·rw [hr] at hp
  have key:Pv (s.r v) a b∧C.head?≠some b∨(Pv (s.r x) a b∧C.head?≠some b):=by
   split at hp
   ·left
    refine ⟨by rw [e,show A ++ v :: C=(A ++ [v]) ++ C by simp];exact hp.left,fun c=>?_⟩
    have hb:=hp.mem.2
    rw [show A ++ v :: C=(A ++ [v]) ++ C by simp] at hnd
    exact (List.nodup_append.1 hnd).2.2 b hb b (List.mem_of_head? c) rfl
   ·split at hp
    ·left
     refine ⟨by rw [e,show A ++ v :: C=(A ++ [v]) ++ C by simp];exact hp.right,?_⟩
     refine pv_no_head ?_ hp
     rw [show A ++ v :: C=(A ++ [v]) ++ C by simp] at hnd
     exact (List.nodup_append.1 hnd).2.1
    ·right
     rename_i c1 c2
     refine ⟨hp,fun c=>?_⟩
     have hbC:b∈C:=List.mem_of_head? c
     have e1:s.r b=s.r v:=hg.same v b (by rw [e];simp [hbC])
     have e2:s.r b=s.r x:=hg.same x b hp.mem.2
     rcases Nat.lt_or_ge x s.v.length with hx | hx
     ·have:=hg.mem x hx
      rw [← e2,e1,e,show A ++ v :: C=(A ++ [v]) ++ C by simp] at this
      rcases List.mem_append.1 this with g | g
      ·exact c1 g
      ·exact c2 g
     ·rw [hg.none x hx] at hp
      exact absurd hp.mem.1 (by simp)
  rcases key with ⟨h1,h2⟩ | ⟨h1,h2⟩
  ·rw [ho,if_neg h2];exact h.inn v a b h1
  ·rw [ho,if_neg h2];exact h.inn x a b h1
 ·rw [hr] at hp
  rw [ho]
  split at hp
  ·have hh:(s.r v).head? = some a:=by rw [e,show A ++ v :: C=(A ++ [v]) ++ C by simp,List.head?_append,hp];rfl
   rw [if_neg (fun c=>by
    rw [show A ++ v :: C=(A ++ [v]) ++ C by simp] at hnd
    exact (List.nodup_append.1 hnd).2.2 a (List.mem_of_head? hp) a (List.mem_of_head? c) rfl)]
   exact h.fst v a hh
  ·split at hp
   ·rw [if_pos hp]
    obtain ⟨C',rfl⟩:∃ C',C=a :: C':=by
     cases C with
     | nil=>cases hp
     | cons b C'=>cases hp;exact ⟨C',rfl⟩
    exact (h.inn v v a ⟨A,C',e⟩).1
   ·rename_i c1 c2
    rw [if_neg (fun c=>by
     have hbC:a∈C:=List.mem_of_head? c
     have e1:s.r a=s.r v:=hg.same v a (by rw [e];simp [hbC])
     have e2:s.r a=s.r x:=hg.same x a (List.mem_of_head? hp)
     rcases Nat.lt_or_ge x s.v.length with hx | hx
     ·have:=hg.mem x hx
      rw [← e2,e1,e,show A ++ v :: C=(A ++ [v]) ++ C by simp] at this
      rcases List.mem_append.1 this with g | g
      ·exact c1 g
      ·exact c2 g
     ·rw [hg.none x hx] at hp;cases hp)]
    exact h.fst x a hp
end Fo
namespace Fo
theorem prefix_end {l P Q:List Nat} {a:Nat} (hn:l.Nodup) (h1:P ++ [a] <+: l) (h2:Q ++ [a] <+: l):P=Q:=by
 obtain ⟨R,rfl⟩:=h1
 obtain ⟨R',e⟩:=h2
 have e1:P ++ [a] ++ R=P ++ a :: R:=by simp
 have e2:Q ++ [a] ++ R' = Q ++ a :: R':=by simp
 rw [e1] at hn e
 rw [e2] at e
 have h1:=idx_mid hn
 rw [← e] at hn
 have h2:=idx_mid hn
 rw [e,h1] at h2
 have:=List.append_inj_left e h2.symm
 exact this.symm
section
variable {f:Ft} {s s0:Sp.St} {ov:Nat→Option Nat}
theorem part_pf (hg:Sp.Good s) {v:Nat} {A C:List Nat} (e:s.r v=A ++ v :: C) (c:Nat):pf (partS s v) c=if C.head? = some c then false else pf s c:=by
 have hr:=part_r hg e c
 have hnd:=hg.nodup v
 have e2:A ++ v :: C=(A ++ [v]) ++ C:=by simp
 rw [e,e2] at hnd
 have hd:=(List.nodup_append.1 hnd).2.2
 have hh:∃ b,b∈A ++ [v]∧(A ++ [v]).head? = some b∧((A ++ [v]) ++ C).head? = some b:=by
  cases A with
  | nil=>exact ⟨v,by simp,rfl,rfl⟩
  | cons b A=>exact ⟨b,by simp,rfl,rfl⟩
 obtain ⟨b,hb,hb1,hb2⟩:=hh
 unfold pf
 rw [hr]
 by_cases c1:c∈A ++ [v]
 ·rw [if_pos c1]
  have e1:s.r c=(A ++ [v]) ++ C:=by rw [hg.same v c (by rw [e,e2];exact List.mem_append_left _ c1),e,e2]
  rw [e1,hb1,hb2,if_neg (fun c2=>hd c c1 c (List.mem_of_head? c2) rfl)]
 ·rw [if_neg c1]
  by_cases c2:c∈C
  ·rw [if_pos c2]
   have e1:s.r c=(A ++ [v]) ++ C:=by rw [hg.same v c (by rw [e,e2];exact List.mem_append_right _ c2),e,e2]
   rw [e1,hb2]
   have hbc:b≠c:=fun x=>c1 (by rw [← x];exact hb)
   split
   ·rename_i c3;simp [c3]
   ·rename_i c3;simp [c3,hbc]
  ·rw [if_neg c2,if_neg (fun c3=>c2 (List.mem_of_head? c3))]
structure Lp (f:Ft) (s0 s:Sp.St) (ov:Nat→Option Nat) (v:Nat) (X:List Nat) (a:Nat):Prop where
 rp:Rp f s ov
 row:path f v=X ++ s.r v
 hd:(s.r v).head? = some a
 on:∀ c,c∈X∨c=a→pf s c=pf s0 c
 off:∀ c,c ∉ path f v→(∀ u,f.up c=some u→u ∉ path f v)→pf s c=pf s0 c
def cnt (f:Ft) (s0:Sp.St) (l:List Nat):Nat:=l.countP fun c=>(f.up c).isSome && !pf s0 c
theorem cnt_pre {l l2:List Nat} (h:l <+: l2):cnt f s0 l≤cnt f s0 l2:=List.Sublist.countP_le h.sublist
theorem Rp.split (h:Rp f s ov) {v:Nat} (hv:v<f.v.length):∃ A C,s.r v=A ++ v :: C:=List.append_of_mem (h.mem hv)
theorem lp_start (h:Rp f s ov) {v:Nat} (hv:v<f.v.length):∃ X a,Lp f s (partS s v) (partO s ov v) v X a∧cnt f s (X ++ [a])≤turns f (pf s) v∧X.length≤f.v.length:=by
 obtain ⟨A,C,e⟩:=h.split hv
 obtain ⟨X,hX⟩:=h.row_path e
 have hr:(partS s v).r v=A ++ [v]:=by rw [part_r h.sg e,if_pos (by simp)]
 obtain ⟨a,ha⟩:∃ a,(A ++ [v]).head? = some a:=by cases A <;> exact ⟨_,rfl⟩
 have hup:∀ c,C.head? = some c→f.up c=some v:=fun c hc=>by
  obtain ⟨C',rfl⟩:∃ C',C=c :: C':=by
   cases C with
   | nil=>cases hc
   | cons b C'=>cases hc;exact ⟨C',rfl⟩
  exact (h.inn v v c ⟨A,C',e⟩).1
 have hcl:∀ c,C.head? = some c→c<f.v.length:=fun c hc=>h.lt (x:=v) (by rw [e];simp [List.mem_of_head? hc])
 refine ⟨X,a,⟨rp_part h e,by rw [hr];exact hX,by rw [hr];exact ha,fun c hc=>?_,fun c hc hu=>?_⟩,?_,?_⟩
 ·rw [part_pf h.sg e,if_neg fun c2=>?_]
  have hcp:c∈path f v:=by
   rw [hX]
   rcases hc with hc | hc
   ·exact List.mem_append_left _ hc
   ·rw [hc];exact List.mem_append_right _ (List.mem_of_head? ha)
  exact h.fg.not_up (hcl c c2) (hup c c2) hcp
 ·rw [part_pf h.sg e,if_neg fun c2=>hu v (hup c c2) (h.fg.path_self hv)]
 ·refine cnt_pre ?_
  rw [hX]
  refine (List.prefix_append_right_inj X).2 ?_
  cases A with
  | nil=>cases ha;simp
  | cons b A=>cases ha;simp
 ·have:=Sp.len_le (h.fg.path_nodup v) (fun y hy=>h.fg.path_lt hy)
  rw [hX] at this
  simp at this
  omega
theorem rp_join {v w a:Nat} (h:Rp f s ov) (hw:(s.r w).getLast? = some w) (ha:(s.r v).head? = some a) (hoa:ov a=some w) (hd:∀ y,y∈s.r w→y ∉ s.r v) :
  Sp.joinE s (w:Int) (v:Int)=0∧Rp f (Sp.joinS s (w:Int) (v:Int)) (fun z=>if z=a then none else ov z)∧(∀ z,(Sp.joinS s (w:Int) (v:Int)).r z=if z∈s.r w∨z∈s.r v then s.r w ++ s.r v else s.r z):=by
 have hg:=h.sg
 have hne:s.r w≠[]:=fun e=>by rw [e] at hw;cases hw
 have hne2:s.r v≠[]:=fun e=>by rw [e] at ha;cases ha
 have hvn:v<s.v.length:=by
  rcases Nat.lt_or_ge v s.v.length with c | c
  ·exact c
  ·exact absurd (hg.none v c) hne2
 have e0:Sp.joinE s (w:Int) (v:Int)=0:=by
  unfold Sp.joinE
  rw [Sp.rowZ_nat,Sp.rowZ_nat,if_neg (by simp [hne,hne2]),Int.toNat_natCast,if_neg (fun c=>hd v c (hg.mem v hvn))]
 have er:∀ z,(Sp.joinS s (w:Int) (v:Int)).r z=if z∈s.r w∨z∈s.r v then s.r w ++ s.r v else s.r z:=fun z=>by
  unfold Sp.joinS
  rw [if_pos e0]
  show (if z∈Sp.rowZ s (w:Int)∨z∈Sp.rowZ s (v:Int) then _ else _)=_
  rw [Sp.rowZ_nat,Sp.rowZ_nat]
 refine ⟨e0,⟨?_,Sp.good_join hg _ _,h.fg,fun x p q hp=>?_,fun x p hp=>?_⟩,er⟩
 ·unfold Sp.joinS;rw [if_pos e0];exact h.val
 ·rw [er] at hp
  have fin:∀ y,Pv (s.r y) p q→f.up q=some p∧(if q=a then none else ov q)=none:=fun y hy=>by
   obtain ⟨g1,g2⟩:=h.inn y p q hy
   exact ⟨g1,by split;rfl;exact g2⟩
  split at hp
  ·rcases hp.app with c | c | ⟨c1,c2⟩
   ·exact fin w c
   ·exact fin v c
   ·rw [hw] at c1
    rw [ha] at c2
    cases c1
    cases c2
    exact ⟨by rw [h.fst v a ha,hoa],by rw [if_pos rfl]⟩
  ·exact fin x hp
 ·rw [er] at hp
  show f.up p=if p=a then none else ov p
  have hav:a∈s.r v:=List.mem_of_head? ha
  split at hp
  ·have hp':(s.r w).head? = some p:=by
    cases e:s.r w with
    | nil=>exact absurd e hne
    | cons b l=>rw [e] at hp;exact hp
   rw [if_neg (fun c=>hd p (List.mem_of_head? hp') (by rw [c];exact hav))]
   exact h.fst w p hp'
  ·rename_i c
   rw [if_neg (fun c2=>c (.inr (by
    subst c2
    have e1:s.r p=s.r v:=hg.same v p hav
    have e2:s.r p=s.r x:=hg.same x p (List.mem_of_head? hp)
    rcases Nat.lt_or_ge x s.v.length with hx | hx
    ·rw [← e1,e2];exact hg.mem x hx
    ·rw [hg.none x hx] at hp;cases hp)))]
   exact h.fst x p hp
theorem join_pf {v w a:Nat} (hg:Sp.Good s) (hne:s.r w≠[]) (ha:(s.r v).head? = some a) (hd:∀ y,y∈s.r w→y ∉ s.r v) {s2:Sp.St} (er:∀ z,s2.r z=if z∈s.r w∨z∈s.r v then s.r w ++ s.r v else s.r z) (c:Nat) (hc:c≠a):pf s2 c=pf s c:=by
 unfold pf
 rw [er]
 obtain ⟨b,l,hb⟩:∃ b l,s.r w=b :: l:=by
  cases e:s.r w with
  | nil=>exact absurd e hne
  | cons b l=>exact ⟨b,l,rfl⟩
 have hh:(s.r w ++ s.r v).head? = some b:=by rw [hb];rfl
 have hh2:(s.r w).head? = some b:=by rw [hb];rfl
 by_cases c1:c∈s.r w
 ·rw [if_pos (.inl c1),hh,hg.same w c c1,hh2]
 ·by_cases c2:c∈s.r v
  ·rw [if_pos (.inr c2),hh,hg.same v c c2,ha]
   have hbc:b≠c:=fun e=>c1 (by rw [← e,hb];simp)
   simp [hbc,Ne.symm hc]
  ·rw [if_neg (by simp [c1,c2])]
theorem lp_step {v w a:Nat} {X:List Nat} (h:Lp f s0 s ov v X a) (hw:ov a=some w) :
  w<f.v.length∧a<f.v.length ∧
  ∃ X' a',Lp f s0 (Sp.joinS (partS s w) (w:Int) (v:Int)) (partO s (fun z=>if z=a then none else ov z) w) v X' a'∧cnt f s0 (X' ++ [a'])+1≤cnt f s0 (X ++ [a])∧X'.length+1≤X.length:=by
 have hr:=h.rp
 have hg:=hr.sg
 have hav:a∈s.r v:=List.mem_of_head? h.hd
 have han:a<f.v.length:=hr.lt hav
 have hup:f.up a=some w:=by rw [hr.fst v a h.hd,hw]
 have hwn:w<f.v.length:=hr.fg.lt a w han hup
 obtain ⟨C0,hC0⟩:∃ C0,s.r v=a :: C0:=by
  cases e:s.r v with
  | nil=>rw [e] at hav;simp at hav
  | cons b l=>have:=h.hd;rw [e] at this;cases this;exact ⟨l,rfl⟩
 have hnd:=hr.fg.path_nodup v
 have hap:a∈path f v:=by rw [h.row];exact List.mem_append_right _ hav
 have hX:X=path f w:=by
  refine prefix_end hnd (a:=a) ?_ ?_
  ·rw [h.row,hC0];exact ⟨C0,by simp⟩
  ·rw [← hr.fg.path_step han hup];exact hr.fg.path_pre hap
 obtain ⟨A,D,e⟩:=hr.split hwn
 obtain ⟨X',hX'⟩:=hr.row_path e
 have hdis:∀ y,y∈s.r w→y ∉ s.r v:=fun y hy hy2=>by
  have e1:=hg.same w y hy
  have e2:=hg.same v y hy2
  have hww:w∈s.r v:=by rw [← e2,e1];exact hr.mem hwn
  have hwX:w∈X:=by rw [hX];exact hr.fg.path_self hwn
  rw [h.row] at hnd
  exact (List.nodup_append.1 hnd).2.2 w hwX w hww rfl
 have e1:(partS s w).r w=A ++ [w]:=by rw [part_r hg e,if_pos (by simp)]
 have hvn2:∀ y,y∈s.r v→y ∉ A ++ [w]∧y ∉ D:=fun y hy=>by
  have:y ∉ s.r w:=fun c=>hdis y c hy
  rw [e,show A ++ w :: D=(A ++ [w]) ++ D by simp] at this
  exact ⟨fun c=>this (List.mem_append_left _ c),fun c=>this (List.mem_append_right _ c)⟩
 have hvv:v∈s.r v:=by
  rcases Nat.lt_or_ge v s.v.length with c | c
  ·exact hg.mem v c
  ·have:=hg.none v c;rw [this] at hav;simp at hav
 have e2:(partS s w).r v=s.r v:=by
  rw [part_r hg e,if_neg (hvn2 v hvv).1,if_neg (hvn2 v hvv).2]
 have hD:∀ c,D.head? = some c→f.up c=some w∧c<f.v.length:=fun c hc=>by
  obtain ⟨D',rfl⟩:∃ D',D=c :: D':=by
   cases D with
   | nil=>cases hc
   | cons b D'=>cases hc;exact ⟨D',rfl⟩
  exact ⟨(hr.inn w w c ⟨A,D',e⟩).1,hr.lt (x:=w) (by rw [e];simp)⟩
 have hoa:partO s ov w a=some w:=by
  rw [part_o hg e,if_neg (fun c=>(hvn2 a hav).2 (List.mem_of_head? c))];exact hw
 have hd1:∀ y,y∈(partS s w).r w→y ∉ (partS s w).r v:=fun y hy=>by
  rw [e1] at hy
  rw [e2]
  intro hy2
  exact (hvn2 y hy2).1 hy
 obtain ⟨j0,j1,j2⟩:=rp_join (rp_part hr e) (v:=v) (w:=w) (a:=a) (by rw [e1];simp) (by rw [e2];exact h.hd) hoa hd1
 have hoo:(fun z=>if z=a then none else partO s ov w z)=partO s (fun z=>if z=a then none else ov z) w:=by
  funext z
  rw [part_o hg e,part_o hg e]
  by_cases c:z=a
  ·subst c
   rw [if_pos rfl,if_neg (fun c=>(hvn2 z hav).2 (List.mem_of_head? c)),if_pos rfl]
  ·rw [if_neg c,if_neg c]
 rw [hoo] at j1
 obtain ⟨a',ha'⟩:∃ a',(A ++ [w]).head? = some a':=by cases A <;> exact ⟨_,rfl⟩
 have ha'X:a'∈X:=by rw [hX,hX'];exact List.mem_append_right _ (List.mem_of_head? ha')
 have hnaX:a ∉ X:=fun c=>by
  rw [h.row] at hnd
  exact (List.nodup_append.1 hnd).2.2 a c a hav rfl
 have hrow:(Sp.joinS (partS s w) (w:Int) (v:Int)).r v=(A ++ [w]) ++ s.r v:=by
  rw [j2,if_pos (.inr (by rw [e2];exact hvv)),e1,e2]
 have hpfc:∀ c,c≠a→D.head?≠some c→pf (Sp.joinS (partS s w) (w:Int) (v:Int)) c=pf s c:=fun c hc hc2=>by
  rw [join_pf (good_part s hg w) (by rw [e1];simp) (by rw [e2];exact h.hd) hd1 j2 c hc,part_pf hg e,if_neg hc2]
 refine ⟨hwn,han,X',a',⟨j1,?_,?_,fun c hc=>?_,fun c hc hu=>?_⟩,?_,?_⟩
 ·rw [hrow,h.row,hX,hX'];simp
 ·rw [hrow,List.head?_append,ha'];rfl
 ·have hcX:c∈X:=by
   rcases hc with hc | hc
   ·rw [hX,hX'];exact List.mem_append_left _ hc
   ·rw [hc];exact ha'X
  rw [hpfc c (fun x=>hnaX (by rw [← x];exact hcX)) (fun x=>hr.fg.not_up (hD c x).2 (hD c x).1 (by rw [← hX];exact hcX))]
  exact h.on c (.inl hcX)
 ·rw [hpfc c (fun x=>hc (by rw [x];exact hap)) (fun x=>hu w (hD c x).1 (by rw [h.row,hX];exact List.mem_append_left _ (hr.fg.path_self hwn)))]
  exact h.off c hc hu
 ·have h1:cnt f s0 (X ++ [a])=cnt f s0 X+1:=by
   unfold cnt
   rw [List.countP_append]
   have:pf s0 a=false:=by
    rw [← h.on a (.inr rfl)]
    unfold pf
    rw [hg.same v a hav,h.hd];simp
   simp [hup,this]
  rw [h1]
  have:X' ++ [a'] <+: X:=by
   rw [hX,hX']
   refine (List.prefix_append_right_inj X').2 ?_
   cases A with
   | nil=>cases ha';simp
   | cons b A=>cases ha';simp
  have:=cnt_pre (f:=f) (s0:=s0) this
  omega
 ·rw [hX,hX'];simp
theorem lp_end {v a:Nat} {X:List Nat} (h:Lp f s0 s ov v X a) (hw:ov a=none):X=[]∧s.r v=path f v∧root f v=some a∧f.up a=none:=by
 have hr:=h.rp
 have hav:a∈s.r v:=List.mem_of_head? h.hd
 have han:a<f.v.length:=hr.lt hav
 have hup:f.up a=none:=by rw [hr.fst v a h.hd,hw]
 obtain ⟨C0,hC0⟩:∃ C0,s.r v=a :: C0:=by
  cases e:s.r v with
  | nil=>rw [e] at hav;simp at hav
  | cons b l=>have:=h.hd;rw [e] at this;cases this;exact ⟨l,rfl⟩
 have hap:a∈path f v:=by rw [h.row];exact List.mem_append_right _ hav
 have hX:X=[]:=by
  refine prefix_end (hr.fg.path_nodup v) (a:=a) ?_ ?_
  ·rw [h.row,hC0];exact ⟨C0,by simp⟩
  ·have:=hr.fg.path_pre hap
   rw [hr.fg.path_top han hup] at this
   exact this
 have e:s.r v=path f v:=by rw [h.row,hX];rfl
 exact ⟨hX,e,by unfold root;rw [← e];exact h.hd,hup⟩
theorem root_up (hf:Good f) {v c:Nat} (hc:(path f v).head? = some c):f.up c=none:=by
 cases hu:f.up c with
 | none=>rfl
 | some u =>
  have hcp:c∈path f v:=List.mem_of_head? hc
  have hcn:=hf.path_lt hcp
  have h1:=hf.path_pre hcp
  rw [hf.path_step hcn hu] at h1
  obtain ⟨R,hR⟩:=h1
  have h2:=hf.path_self (hf.lt c u hcn hu)
  cases e:path f u with
  | nil=>rw [e] at h2;simp at h2
  | cons b l =>
   rw [e] at hR
   rw [← hR] at hc
   cases hc
   exact absurd (by rw [e];simp) (hf.not_up hcn hu)
theorem Rp.on_row (h:Rp f s ov) {v c:Nat} (hr:s.r v=path f v) (hc:c∈path f v) (hu:(f.up c).isSome=true):pf s c=true:=by
 unfold pf
 rw [h.sg.same v c (by rw [hr];exact hc),hr]
 simp only [decide_eq_true_eq]
 intro e
 rw [root_up h.fg e] at hu
 cases hu
theorem lp_cost {v a:Nat} (h:Lp f s0 s ov v [] a) (hv:v<f.v.length) (hr:s.r v=path f v):turns f (pf s0) v+idle f (pf s)≤idle f (pf s0)+2*lights f (path f v)+1 :=
 h.rp.fg.access hv (fun c _ hc hu=>h.rp.on_row hr hc hu) (fun c _ hc hu=>h.off c hc hu)
theorem lights_log (h:Good f) {v:Nat} (hv:v<f.v.length):lights f (path f v)≤f.v.length.log2:=by
 obtain ⟨k,hk⟩:=h.dep v hv
 have:=h.lights_le hv hk
 omega
theorem lights_root {v:Nat} (h:Good f) (hv:v<f.v.length) (hu:f.up v=none):lights f (path f v)=0:=by
 rw [h.path_top hv hu];simp [lights,hu]
theorem rp_link (h:Rp f s ov) {v w:Nat} (hv:v<f.v.length) (hw:w<f.v.length) (hu:f.up v=none) (hne:root f w≠some v) (hr:s.r w=path f w) :
  Rp (linkF f v w) s (fun x=>if x=v then some w else ov x)∧idle (linkF f v w) (pf s)≤idle f (pf s)+f.v.length.log2+1:=by
 have hf':=good_link h.fg hv hw hu hne
 obtain ⟨hp,hn⟩:=near_link h.fg hu hw hv hne
 have hR:Rp (linkF f v w) s (fun x=>if x=v then some w else ov x):=by
  refine ⟨h.val,h.sg,hf',fun x a b hb=>?_,fun x a ha=>?_⟩
  ·obtain ⟨g1,g2⟩:=h.inn x a b hb
   have:b≠v:=fun c=>by rw [c,hu] at g1;cases g1
   exact ⟨by show (if b=v then some w else f.up b)=some a;rw [if_neg this];exact g1,by rw [if_neg this];exact g2⟩
  ·show (if a=v then some w else f.up a)=if a=v then some w else ov a
   split
   ·rfl
   ·exact h.fst x a ha
 refine ⟨hR,?_⟩
 have h1:=hn.idle_le h.fg hf' hw (pf:=pf s) (pf':=pf s) (fun c _ hc hcu=>hR.on_row (v:=w) (by rw [hp];exact hr) hc hcu) (fun c _ _ _ _=>rfl)
 have h2:=lights_log hf' (v:=w) hw
 have h3:(linkF f v w).v.length=f.v.length:=rfl
 rw [h3] at h2
 omega
theorem cut_rows (h:Rp f s ov) {v u:Nat} (hv:v<f.v.length) (hu:f.up v=some u) (hr:s.r v=path f v) (z:Nat):(Sp.splitS s (v:Int)).r z=if z∈path f u then path f u else if z=v then [v] else s.r z:=by
 unfold Sp.splitS Sp.cutR
 have hn:=h.fg.path_nodup v
 rw [Sp.rowZ_nat,Int.toNat_natCast,hr,h.fg.path_step hv hu] at *
 rw [idx_mid hn,List.take_left,List.drop_left]
 simp
theorem rp_cut (h:Rp f s ov) {v u:Nat} (hv:v<f.v.length) (hu:f.up v=some u) (hr:s.r v=path f v) :
  Rp (cutF f v) (Sp.splitS s (v:Int)) ov∧idle (cutF f v) (pf (Sp.splitS s (v:Int)))≤idle f (pf s)+f.v.length.log2+1:=by
 have hf':=good_cut h.fg v
 have hun:=h.fg.lt v u hv hu
 obtain ⟨hp,hn⟩:=near_cut h.fg hv hu
 have er:=cut_rows h hv hu hr
 have hnd:=h.fg.path_nodup v
 have hps:=h.fg.path_step hv hu
 have hvu:=h.fg.not_up hv hu
 have hov:ov v=none:=by
  rcases h.at hv with ⟨g1,g2⟩ | ⟨_,_,_,_,g⟩
  ·have:=h.on_row hr (h.fg.path_self hv) (by rw [hu];rfl)
   rw [g1] at this;cases this
  ·exact g
 have hR:Rp (cutF f v) (Sp.splitS s (v:Int)) ov:=by
  refine ⟨h.val,Sp.good_split h.sg _,hf',fun x a b hb=>?_,fun x a ha=>?_⟩
  ·rw [er] at hb
   have key:b≠v∧∃ y,Pv (s.r y) a b:=by
    split at hb
    ·exact ⟨fun c=>hvu (by rw [← c];exact hb.mem.2),v,by rw [hr,hps];exact hb.left⟩
    ·split at hb
     ·obtain ⟨A,C,e⟩:=hb
      have:=congrArg List.length e
      simp at this
      omega
     ·rename_i c1 c2
      refine ⟨fun c=>?_,x,hb⟩
      subst c
      have e1:=h.sg.same x b hb.mem.2
      rcases Nat.lt_or_ge x s.v.length with hx | hx
      ·have:=h.sg.mem x hx
       rw [← e1,hr,hps] at this
       rcases List.mem_append.1 this with g | g
       ·exact c1 g
       ·simp at g;exact c2 g
      ·rw [h.sg.none x hx] at hb
       exact absurd hb.mem.1 (by simp)
   obtain ⟨hbv,y,hy⟩:=key
   obtain ⟨g1,g2⟩:=h.inn y a b hy
   exact ⟨by show (if b=v then none else f.up b)=some a;rw [if_neg hbv];exact g1,g2⟩
  ·rw [er] at ha
   show (if a=v then none else f.up a)=ov a
   split at ha
   ·have ha':(s.r v).head? = some a:=by
     rw [hr,hps,List.head?_append,ha];rfl
    rw [if_neg (fun c=>hvu (by rw [← c];exact List.mem_of_head? ha))]
    exact h.fst v a ha'
   ·split at ha
    ·simp at ha
     rw [if_pos ha.symm,← ha,hov]
    ·rename_i c1 c2
     by_cases c:a=v
     ·rw [if_pos c,c,hov]
     ·rw [if_neg c];exact h.fst x a ha
 refine ⟨hR,?_⟩
 have h1:=hn.idle_le h.fg hf' hun (pf:=pf s) (pf':=pf (Sp.splitS s (v:Int))) (fun c _ hc hcu=>hR.on_row (v:=u) (by
  rw [er,hp,if_pos (h.fg.path_self hun)]) hc hcu) (fun c _ hc hcp hcu=>by
  have hcv:c≠v:=fun e=>by subst e;simp [cutF] at hcu
  rw [hp] at hc
  unfold pf
  rw [er,if_neg hc,if_neg hcv])
 have h2:=lights_log hf' (v:=u) hun
 have h3:(cutF f v).v.length=f.v.length:=rfl
 rw [h3] at h2
 omega
theorem path_val {f:Ft} {v':List Int} (h:v'.length=f.v.length) (x:Nat):path ⟨v',f.up⟩ x=path f x:=by
 unfold path
 rw [show (⟨v',f.up⟩:Ft).v.length=f.v.length from h]
theorem idle_val {f:Ft} {v':List Int} (h:v'.length=f.v.length) (p:Nat→Bool):idle ⟨v',f.up⟩ p=idle f p:=by
 have hs:∀ x,sz ⟨v',f.up⟩ x=sz f x:=fun x=>by
  unfold sz
  rw [show (⟨v',f.up⟩:Ft).v.length=f.v.length from h]
  simp only [path_val h]
 have hh:∀ c,heavy ⟨v',f.up⟩ c=heavy f c:=fun c=>by
  unfold heavy
  simp only [hs]
 unfold idle
 rw [show (⟨v',f.up⟩:Ft).v.length=f.v.length from h]
 simp only [hh]
theorem addE_eq (h:Rp f s ov) {v:Nat} (hr:s.r v=path f v) (d:Int):Sp.addE s (v:Int) d=addE f (v:Int) d:=by
 unfold Sp.addE addE
 rw [Sp.rowZ_nat,pathZ_nat,hr,h.val]
theorem leastZ_eq (h:Rp f s ov) {v:Nat} (hr:s.r v=path f v):Sp.leastZ s (v:Int)=leastZ f (v:Int):=by
 unfold Sp.leastZ leastZ
 rw [Sp.rowZ_nat,pathZ_nat,hr,h.val]
theorem rp_add (h:Rp f s ov) {v:Nat} (hr:s.r v=path f v) (d:Int):Rp (addS f (v:Int) d) (Sp.addS s (v:Int) d) ov∧idle (addS f (v:Int) d) (pf (Sp.addS s (v:Int) d))=idle f (pf s):=by
 have e:=addE_eq h hr d
 unfold Sp.addS addS
 rw [e]
 by_cases c:addE f (v:Int) d=0
 ·have hg:=good_addS h.fg (v:Int) d
  have hg2:=Sp.good_add h.sg (v:Int) d
  unfold addS at hg
  unfold Sp.addS at hg2
  rw [e] at hg2
  rw [if_pos c] at hg hg2
  rw [if_pos c,if_pos c]
  refine ⟨⟨?_,hg2,hg,h.inn,h.fst⟩,?_⟩
  ·show Sp.addL s.v (Sp.rowZ s (v:Int)) d=Sp.addL f.v (pathZ f (v:Int)) d
   rw [Sp.rowZ_nat,pathZ_nat,hr,h.val]
  ·exact idle_val (Sp.addL_len _ _ _) _
 ·rw [if_neg c,if_neg c]
  exact ⟨h,rfl⟩
theorem rp_new {vs:List Int} (h:Sp.newE vs=0):Rp (newS vs) (Sp.newS vs) (fun _=>none)∧idle (newS vs) (pf (Sp.newS vs))=0:=by
 refine ⟨⟨rfl,Sp.good_new h,good_new h,fun x a b hb=>?_,fun x a ha=>rfl⟩,?_⟩
 ·have hb':Pv (if x<vs.length then [x] else []) a b:=hb
  obtain ⟨A,C,e⟩:=hb'
  have:=congrArg List.length e
  split at this <;> simp at this <;> omega
 ·unfold idle
  refine List.countP_eq_zero.2 fun c _=>?_
  simp [heavy,newS]
end
end Fo
namespace Fo
section
variable {f:Ft}
theorem there_nat {v:Nat} (hv:v<f.v.length):there f (v:Int):=⟨by omega,by omega⟩
theorem aboveZ_nat {v:Nat} (hv:v<f.v.length):aboveZ f (v:Int)=oz (f.up v):=by unfold aboveZ;rw [if_pos (there_nat hv),Int.toNat_natCast]
end
end Fo
end Go.Proofs.YthhlfphnokdfaaaGreat
namespace Go.Proofs.YthhlfphnokdfaaaGreat
open Go.ChangeShapes Go.WideShapes Go.ChangeAt Go.RowKit
open Lib (hid)
namespace Sp
structure Off (F:Nat→Prop) (w w2:World):Prop where
 os:w2.os=w.os
 tape:w2.tape=w.tape
 output:w2.output=w.output
 size:w.heap.size≤w2.heap.size
 block:∀ k,k<w.heap.size→¬ F k→w2.heap[k]? = w.heap[k]?
section
variable {F F' G:Nat→Prop} {w w2 w3:World} {B:Nat}
theorem Off.refl (F:Nat→Prop) (w:World):Off F w w:=⟨rfl,rfl,rfl,Nat.le_refl _,fun _ _ _=>rfl⟩
theorem Off.trans (h:Off F w w2) (k:Off F' w2 w3) (hF:∀ g,F' g→F g∨w.heap.size≤g):Off F w w3 :=
 ⟨k.os.trans h.os,k.tape.trans h.tape,k.output.trans h.output,Nat.le_trans h.size k.size,fun i h1 h2=>(k.block i (Nat.lt_of_lt_of_le h1 h.size) fun c=>by
  rcases hF i c with c | c
  ·exact h2 c
  ·omega).trans (h.block i h1 h2)⟩
theorem Off.of_below (h:Below w.heap.size w w2):Off F w w2:=⟨h.os,h.tape,h.output,h.size,fun k hk _=>h.block k hk⟩
theorem Off.then (h:Off F w w2) (k:Below w2.heap.size w2 w3):Off F w w3:=h.trans (.of_below (F:=F) k) fun g hg=>.inl hg
theorem Off.first (h:Below w.heap.size w w2) (k:Off F w2 w3):Off F w w3:=(Off.of_below (F:=F) h).trans k fun g hg=>.inl hg
theorem Off.below (h:Off F w w2) (hF:∀ g,F g→B≤g) (h0:B≤w.heap.size):Below B w w2:=⟨h.os,h.tape,h.output,h.size,fun k hk=>h.block k (by omega) fun c=>by have:=hF k c;omega⟩
theorem Off.mono (h:Off F w w2) (hF:∀ g,F g→G g):Off G w w2:=⟨h.os,h.tape,h.output,h.size,fun k h1 h2=>h.block k h1 fun c=>h2 (hF k c)⟩
theorem Off.set (h:Off F w w2) {p:Addr} (hp:F p.block∨w.heap.size≤p.block) (v:Value):Off F w (w2.setCell p v) :=
 ⟨h.os,h.tape,h.output,by have:=h.size;simpa [World.setCell] using this,fun k h1 h2=>(Below.heap_setCell _ _ _ _ fun e=>by
  subst e
  rcases hp with c | c
  ·exact h2 c
  ·omega).trans (h.block k h1 h2)⟩
theorem Off.alloc (h:Off F w w2) (o:Obj):Off F w (w2.alloc o):=h.then ((Below.refl _ _).alloc (Nat.le_refl _) o)
theorem Off.grown {row:Option Nat} (h:Off F w w2) (hg:w2.grownBy w3 row) (hr:∀ k,row=some k→F k∨w.heap.size≤k):Off F w w3 :=
 ⟨hg.os.trans h.os,hg.tape.trans h.tape,hg.output.trans h.output,Nat.le_trans h.size hg.size,fun k h1 h2=>(hg.block k (Nat.lt_of_lt_of_le h1 h.size) fun e=>by
  rcases hr k e.symm with c | c
  ·exact h2 c
  ·omega).trans (h.block k h1 h2)⟩
end
def Ext (F:Nat→Prop) (w w2:World) (g:Nat):Prop:=F g∨(w.heap.size≤g∧g<w2.heap.size)
section
variable {w w2 w3:World} {F:Nat→Prop}
theorem ext_two {g:Nat} (h:Ext (Ext F w w2) w2 w3 g) (h1:w.heap.size≤w2.heap.size) (h2:w2.heap.size≤w3.heap.size):Ext F w w3 g:=by
 rcases h with (h | h) | h
 ·exact .inl h
 ·exact .inr ⟨h.1,by omega⟩
 ·exact .inr ⟨by omega,h.2⟩
end
end Sp
namespace Sp
section
variable {w:World} {B p m:Nat} {F:Nat→Prop} {s:St}
theorem leastL_snoc (v:List Int) (l:List Nat) (i:Nat):leastL v (l ++ [i])=if leastL v l<0∨Ne.amt v i<Ne.amt v (leastL v l).toNat then (i:Int) else leastL v l:=by
 unfold leastL;rw [List.foldl_append];rfl
theorem ext_in {w w2:World} {B:Nat} {F:Nat→Prop} (hf:∀ g,F g→B≤g∧g<w.heap.size) (hBw:B≤w.heap.size) (hs:w.heap.size≤w2.heap.size):∀ g,Ext F w w2 g→B≤g∧g<w2.heap.size:=fun g hg=>by
 rcases hg with c | c
 ·have:=hf g c;omega
 ·omega
theorem off_two {w w2 w3:World} {F:Nat→Prop} (h1:Off F w w2) (h2:Off (Ext F w w2) w2 w3):Off F w w3:=h1.trans h2 fun g hg=>by
 rcases hg with c | c
 ·exact .inl c
 ·exact .inr c.1
end
end Sp
end Go.Proofs.YthhlfphnokdfaaaGreat
