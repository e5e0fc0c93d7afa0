/-
  Fpb, Flp, Spo, Spf, Foy, Trq
-/
import Derived.Test.YtoadkckceladgaaGreatBc12
import Derived.Test.YtoadkckceladgaaGreatBc11
import Derived.Deep.LoopGhost
import Derived.Deep.DeepCutAuto
import Derived.WalkMore
import Derived.Deep.QuietTactic
import Derived.BigQuiet
import Derived.Test.YtoadkckceladgaaGreatBc4
set_option linter.unusedVariables false
set_option linter.unusedSimpArgs false
set_option maxRecDepth 100000
set_option maxHeartbeats 4000000
namespace Go.Proofs.YtoadkckceladgaaGreat
namespace Fo
theorem prefix_end {l P Q:List Nat} {a:Nat} (hn:l.Nodup) (h1:P ++ [a] <+: l) (h2:Q ++ [a] <+: l):P=Q:=by
 obtain ⟨R,rfl⟩:=h1
 obtain ⟨R',e⟩:=h2
 have e1:P ++ [a] ++ R=P ++ a :: R:=by simp
 have e2:Q ++ [a] ++ R' = Q ++ a :: R':=by simp
 rw [e1] at hn e
 rw [e2] at e
 have h1:=idx_mid hn
 rw [← e] at hn
 have h2:=idx_mid hn
 rw [e,h1] at h2
 have:=List.append_inj_left e h2.symm
 exact this.symm
section
variable {f:Ft} {s s0:Sp.St} {ov:Nat→Option Nat}
theorem part_pf (hg:Sp.Good s) {v:Nat} {A C:List Nat} (e:s.r v=A ++ v :: C) (c:Nat):pf (partS s v) c=if C.head? = some c then false else pf s c:=by
 have hr:=part_r hg e c
 have hnd:=hg.nodup v
 have e2:A ++ v :: C=(A ++ [v]) ++ C:=by simp
 rw [e,e2] at hnd
 have hd:=(List.nodup_append.1 hnd).2.2
 have hh:∃ b,b∈A ++ [v]∧(A ++ [v]).head? = some b∧((A ++ [v]) ++ C).head? = some b:=by
  cases A with
  | nil=>exact ⟨v,by simp,rfl,rfl⟩
  | cons b A=>exact ⟨b,by simp,rfl,rfl⟩
 obtain ⟨b,hb,hb1,hb2⟩:=hh
 unfold pf
 rw [hr]
 by_cases c1:c∈A ++ [v]
 ·rw [if_pos c1]
  have e1:s.r c=(A ++ [v]) ++ C:=by rw [hg.same v c (by rw [e,e2];exact List.mem_append_left _ c1),e,e2]
  rw [e1,hb1,hb2,if_neg (fun c2=>hd c c1 c (List.mem_of_head? c2) rfl)]
 ·rw [if_neg c1]
  by_cases c2:c∈C
  ·rw [if_pos c2]
   have e1:s.r c=(A ++ [v]) ++ C:=by rw [hg.same v c (by rw [e,e2];exact List.mem_append_right _ c2),e,e2]
   rw [e1,hb2]
   have hbc:b≠c:=fun x=>c1 (by rw [← x];exact hb)
   split
   ·rename_i c3;simp [c3]
   ·rename_i c3;simp [c3,hbc]
  ·rw [if_neg c2,if_neg (fun c3=>c2 (List.mem_of_head? c3))]
structure Lp (f:Ft) (s0 s:Sp.St) (ov:Nat→Option Nat) (v:Nat) (X:List Nat) (a:Nat):Prop where
 rp:Rp f s ov
 row:path f v=X ++ s.r v
 hd:(s.r v).head? = some a
 on:∀ c,c∈X∨c=a→pf s c=pf s0 c
 off:∀ c,c ∉ path f v→(∀ u,f.up c=some u→u ∉ path f v)→pf s c=pf s0 c
def cnt (f:Ft) (s0:Sp.St) (l:List Nat):Nat:=l.countP fun c=>(f.up c).isSome && !pf s0 c
theorem cnt_pre {l l2:List Nat} (h:l <+: l2):cnt f s0 l≤cnt f s0 l2:=List.Sublist.countP_le h.sublist
theorem Rp.split (h:Rp f s ov) {v:Nat} (hv:v<f.v.length):∃ A C,s.r v=A ++ v :: C:=List.append_of_mem (h.mem hv)
theorem lp_start (h:Rp f s ov) {v:Nat} (hv:v<f.v.length):∃ X a,Lp f s (partS s v) (partO s ov v) v X a∧cnt f s (X ++ [a])≤turns f (pf s) v∧X.length≤f.v.length:=by
 obtain ⟨A,C,e⟩:=h.split hv
 obtain ⟨X,hX⟩:=h.row_path e
 have hr:(partS s v).r v=A ++ [v]:=by rw [part_r h.sg e,if_pos (by simp)]
 obtain ⟨a,ha⟩:∃ a,(A ++ [v]).head? = some a:=by cases A <;> exact ⟨_,rfl⟩
 have hup:∀ c,C.head? = some c→f.up c=some v:=fun c hc=>by
  obtain ⟨C',rfl⟩:∃ C',C=c :: C':=by
   cases C with
   | nil=>cases hc
   | cons b C'=>cases hc;exact ⟨C',rfl⟩
  exact (h.inn v v c ⟨A,C',e⟩).1
 have hcl:∀ c,C.head? = some c→c<f.v.length:=fun c hc=>h.lt (x:=v) (by rw [e];simp [List.mem_of_head? hc])
 refine ⟨X,a,⟨rp_part h e,by rw [hr];exact hX,by rw [hr];exact ha,fun c hc=>?_,fun c hc hu=>?_⟩,?_,?_⟩
 ·rw [part_pf h.sg e,if_neg fun c2=>?_]
  have hcp:c∈path f v:=by
   rw [hX]
   rcases hc with hc | hc
   ·exact List.mem_append_left _ hc
   ·rw [hc];exact List.mem_append_right _ (List.mem_of_head? ha)
  exact h.fg.not_up (hcl c c2) (hup c c2) hcp
 ·rw [part_pf h.sg e,if_neg fun c2=>hu v (hup c c2) (h.fg.ptF hv)]
 ·refine cnt_pre ?_
  rw [hX]
  refine (List.prefix_append_right_inj X).2 ?_
  cases A with
  | nil=>cases ha;simp
  | cons b A=>cases ha;simp
 ·have:=Sp.len_le (h.fg.path_nodup v) (fun y hy=>h.fg.path_lt hy)
  rw [hX] at this
  simp at this
  omega
theorem rp_join {v w a:Nat} (h:Rp f s ov) (hw:(s.r w).getLast? = some w) (ha:(s.r v).head? = some a) (hoa:ov a=some w) (hd:∀ y,y∈s.r w→y ∉ s.r v) :
  Sp.joinE s (w:Int) (v:Int)=0∧Rp f (Sp.joinS s (w:Int) (v:Int)) (fun z=>if z=a then none else ov z)∧(∀ z,(Sp.joinS s (w:Int) (v:Int)).r z=if z∈s.r w∨z∈s.r v then s.r w ++ s.r v else s.r z):=by
 have hg:=h.sg
 have hne:s.r w≠[]:=fun e=>by rw [e] at hw;cases hw
 have hne2:s.r v≠[]:=fun e=>by rw [e] at ha;cases ha
 have hvn:v<s.v.length:=by
  rcases Nat.lt_or_ge v s.v.length with c | c
  ·exact c
  ·exact absurd (hg.none v c) hne2
 have e0:Sp.joinE s (w:Int) (v:Int)=0:=by
  unfold Sp.joinE
  rw [Sp.rZn,Sp.rZn,if_neg (by simp [hne,hne2]),Int.toNat_natCast,if_neg (fun c=>hd v c (hg.mem v hvn))]
 have er:∀ z,(Sp.joinS s (w:Int) (v:Int)).r z=if z∈s.r w∨z∈s.r v then s.r w ++ s.r v else s.r z:=fun z=>by
  unfold Sp.joinS
  rw [if_pos e0]
  show (if z∈Sp.rowZ s (w:Int)∨z∈Sp.rowZ s (v:Int) then _ else _)=_
  rw [Sp.rZn,Sp.rZn]
 refine ⟨e0,⟨?_,Sp.good_join hg _ _,h.fg,fun x p q hp=>?_,fun x p hp=>?_⟩,er⟩
 ·unfold Sp.joinS;rw [if_pos e0];exact h.val
 ·rw [er] at hp
  have fin:∀ y,Pv (s.r y) p q→f.up q=some p∧(if q=a then none else ov q)=none:=fun y hy=>by
   obtain ⟨g1,g2⟩:=h.inn y p q hy
   exact ⟨g1,by split;rfl;exact g2⟩
  split at hp
  ·rcases hp.app with c | c | ⟨c1,c2⟩
   ·exact fin w c
   ·exact fin v c
   ·rw [hw] at c1
    rw [ha] at c2
    cases c1
    cases c2
    exact ⟨by rw [h.fst v a ha,hoa],by rw [if_pos rfl]⟩
  ·exact fin x hp
 ·rw [er] at hp
  show f.up p=if p=a then none else ov p
  have hav:a∈s.r v:=List.mem_of_head? ha
  split at hp
  ·have hp':(s.r w).head? = some p:=by
    cases e:s.r w with
    | nil=>exact absurd e hne
    | cons b l=>rw [e] at hp;exact hp
   rw [if_neg (fun c=>hd p (List.mem_of_head? hp') (by rw [c];exact hav))]
   exact h.fst w p hp'
  ·rename_i c
   rw [if_neg (fun c2=>c (.inr (by
    subst c2
    have e1:s.r p=s.r v:=hg.same v p hav
    have e2:s.r p=s.r x:=hg.same x p (List.mem_of_head? hp)
    rcases Nat.lt_or_ge x s.v.length with hx | hx
    ·rw [← e1,e2];exact hg.mem x hx
    ·rw [hg.none x hx] at hp;cases hp)))]
   exact h.fst x p hp
theorem join_pf {v w a:Nat} (hg:Sp.Good s) (hne:s.r w≠[]) (ha:(s.r v).head? = some a) (hd:∀ y,y∈s.r w→y ∉ s.r v) {s2:Sp.St} (er:∀ z,s2.r z=if z∈s.r w∨z∈s.r v then s.r w ++ s.r v else s.r z) (c:Nat) (hc:c≠a):pf s2 c=pf s c:=by
 unfold pf
 rw [er]
 obtain ⟨b,l,hb⟩:∃ b l,s.r w=b :: l:=by
  cases e:s.r w with
  | nil=>exact absurd e hne
  | cons b l=>exact ⟨b,l,rfl⟩
 have hh:(s.r w ++ s.r v).head? = some b:=by rw [hb];rfl
 have hh2:(s.r w).head? = some b:=by rw [hb];rfl
 by_cases c1:c∈s.r w
 ·rw [if_pos (.inl c1),hh,hg.same w c c1,hh2]
 ·by_cases c2:c∈s.r v
  ·rw [if_pos (.inr c2),hh,hg.same v c c2,ha]
   have hbc:b≠c:=fun e=>c1 (by rw [← e,hb];simp)
   simp [hbc,Ne.symm hc]
  ·rw [if_neg (by simp [c1,c2])]
theorem lp_step {v w a:Nat} {X:List Nat} (h:Lp f s0 s ov v X a) (hw:ov a=some w) :
  w<f.v.length∧a<f.v.length ∧
  ∃ X' a',Lp f s0 (Sp.joinS (partS s w) (w:Int) (v:Int)) (partO s (fun z=>if z=a then none else ov z) w) v X' a'∧cnt f s0 (X' ++ [a'])+1≤cnt f s0 (X ++ [a])∧X'.length+1≤X.length:=by
 have hr:=h.rp
 have hg:=hr.sg
 have hav:a∈s.r v:=List.mem_of_head? h.hd
 have han:a<f.v.length:=hr.lt hav
 have hup:f.up a=some w:=by rw [hr.fst v a h.hd,hw]
 have hwn:w<f.v.length:=hr.fg.lt a w han hup
 obtain ⟨C0,hC0⟩:∃ C0,s.r v=a :: C0:=by
  cases e:s.r v with
  | nil=>rw [e] at hav;simp at hav
  | cons b l=>have:=h.hd;rw [e] at this;cases this;exact ⟨l,rfl⟩
 have hnd:=hr.fg.path_nodup v
 have hap:a∈path f v:=by rw [h.row];exact List.mem_append_right _ hav
 have hX:X=path f w:=by
  refine prefix_end hnd (a:=a) ?_ ?_
  ·rw [h.row,hC0];exact ⟨C0,by simp⟩
  ·rw [← hr.fg.ptS han hup];exact hr.fg.path_pre hap
 obtain ⟨A,D,e⟩:=hr.split hwn
 obtain ⟨X',hX'⟩:=hr.row_path e
 have hdis:∀ y,y∈s.r w→y ∉ s.r v:=fun y hy hy2=>by
  have e1:=hg.same w y hy
  have e2:=hg.same v y hy2
  have hww:w∈s.r v:=by rw [← e2,e1];exact hr.mem hwn
  have hwX:w∈X:=by rw [hX];exact hr.fg.ptF hwn
  rw [h.row] at hnd
  exact (List.nodup_append.1 hnd).2.2 w hwX w hww rfl
 have e1:(partS s w).r w=A ++ [w]:=by rw [part_r hg e,if_pos (by simp)]
 have hvn2:∀ y,y∈s.r v→y ∉ A ++ [w]∧y ∉ D:=fun y hy=>by
  have:y ∉ s.r w:=fun c=>hdis y c hy
  rw [e,show A ++ w :: D=(A ++ [w]) ++ D by simp] at this
  exact ⟨fun c=>this (List.mem_append_left _ c),fun c=>this (List.mem_append_right _ c)⟩
 have hvv:v∈s.r v:=by
  rcases Nat.lt_or_ge v s.v.length with c | c
  ·exact hg.mem v c
  ·have:=hg.none v c;rw [this] at hav;simp at hav
 have e2:(partS s w).r v=s.r v:=by
  rw [part_r hg e,if_neg (hvn2 v hvv).1,if_neg (hvn2 v hvv).2]
 have hD:∀ c,D.head? = some c→f.up c=some w∧c<f.v.length:=fun c hc=>by
  obtain ⟨D',rfl⟩:∃ D',D=c :: D':=by
   cases D with
   | nil=>cases hc
   | cons b D'=>cases hc;exact ⟨D',rfl⟩
  exact ⟨(hr.inn w w c ⟨A,D',e⟩).1,hr.lt (x:=w) (by rw [e];simp)⟩
 have hoa:partO s ov w a=some w:=by
  rw [part_o hg e,if_neg (fun c=>(hvn2 a hav).2 (List.mem_of_head? c))];exact hw
 have hd1:∀ y,y∈(partS s w).r w→y ∉ (partS s w).r v:=fun y hy=>by
  rw [e1] at hy
  rw [e2]
  intro hy2
  exact (hvn2 y hy2).1 hy
 obtain ⟨j0,j1,j2⟩:=rp_join (rp_part hr e) (v:=v) (w:=w) (a:=a) (by rw [e1];simp) (by rw [e2];exact h.hd) hoa hd1
 have hoo:(fun z=>if z=a then none else partO s ov w z)=partO s (fun z=>if z=a then none else ov z) w:=by
  funext z
  rw [part_o hg e,part_o hg e]
  by_cases c:z=a
  ·subst c
   rw [if_pos rfl,if_neg (fun c=>(hvn2 z hav).2 (List.mem_of_head? c)),if_pos rfl]
  ·rw [if_neg c,if_neg c]
 rw [hoo] at j1
 obtain ⟨a',ha'⟩:∃ a',(A ++ [w]).head? = some a':=by cases A <;> exact ⟨_,rfl⟩
 have ha'X:a'∈X:=by rw [hX,hX'];exact List.mem_append_right _ (List.mem_of_head? ha')
 have hnaX:a ∉ X:=fun c=>by
  rw [h.row] at hnd
  exact (List.nodup_append.1 hnd).2.2 a c a hav rfl
 have hrow:(Sp.joinS (partS s w) (w:Int) (v:Int)).r v=(A ++ [w]) ++ s.r v:=by
  rw [j2,if_pos (.inr (by rw [e2];exact hvv)),e1,e2]
 have hpfc:∀ c,c≠a→D.head?≠some c→pf (Sp.joinS (partS s w) (w:Int) (v:Int)) c=pf s c:=fun c hc hc2=>by
  rw [join_pf (good_part s hg w) (by rw [e1];simp) (by rw [e2];exact h.hd) hd1 j2 c hc,part_pf hg e,if_neg hc2]
 refine ⟨hwn,han,X',a',⟨j1,?_,?_,fun c hc=>?_,fun c hc hu=>?_⟩,?_,?_⟩
 ·rw [hrow,h.row,hX,hX'];simp
 ·rw [hrow,List.head?_append,ha'];rfl
 ·have hcX:c∈X:=by
   rcases hc with hc | hc
   ·rw [hX,hX'];exact List.mem_append_left _ hc
   ·rw [hc];exact ha'X
  rw [hpfc c (fun x=>hnaX (by rw [← x];exact hcX)) (fun x=>hr.fg.not_up (hD c x).2 (hD c x).1 (by rw [← hX];exact hcX))]
  exact h.on c (.inl hcX)
 ·rw [hpfc c (fun x=>hc (by rw [x];exact hap)) (fun x=>hu w (hD c x).1 (by rw [h.row,hX];exact List.mem_append_left _ (hr.fg.ptF hwn)))]
  exact h.off c hc hu
 ·have h1:cnt f s0 (X ++ [a])=cnt f s0 X+1:=by
   unfold cnt
   rw [List.countP_append]
   have:pf s0 a=false:=by
    rw [← h.on a (.inr rfl)]
    unfold pf
    rw [hg.same v a hav,h.hd];simp
   simp [hup,this]
  rw [h1]
  have:X' ++ [a'] <+: X:=by
   rw [hX,hX']
   refine (List.prefix_append_right_inj X').2 ?_
   cases A with
   | nil=>cases ha';simp
   | cons b A=>cases ha';simp
  have:=cnt_pre (f:=f) (s0:=s0) this
  omega
 ·rw [hX,hX'];simp
theorem lp_end {v a:Nat} {X:List Nat} (h:Lp f s0 s ov v X a) (hw:ov a=none):X=[]∧s.r v=path f v∧root f v=some a∧f.up a=none:=by
 have hr:=h.rp
 have hav:a∈s.r v:=List.mem_of_head? h.hd
 have han:a<f.v.length:=hr.lt hav
 have hup:f.up a=none:=by rw [hr.fst v a h.hd,hw]
 obtain ⟨C0,hC0⟩:∃ C0,s.r v=a :: C0:=by
  cases e:s.r v with
  | nil=>rw [e] at hav;simp at hav
  | cons b l=>have:=h.hd;rw [e] at this;cases this;exact ⟨l,rfl⟩
 have hap:a∈path f v:=by rw [h.row];exact List.mem_append_right _ hav
 have hX:X=[]:=by
  refine prefix_end (hr.fg.path_nodup v) (a:=a) ?_ ?_
  ·rw [h.row,hC0];exact ⟨C0,by simp⟩
  ·have:=hr.fg.path_pre hap
   rw [hr.fg.path_top han hup] at this
   exact this
 have e:s.r v=path f v:=by rw [h.row,hX];rfl
 exact ⟨hX,e,by unfold root;rw [← e];exact h.hd,hup⟩
theorem root_up (hf:Good f) {v c:Nat} (hc:(path f v).head? = some c):f.up c=none:=by
 cases hu:f.up c with
 | none=>rfl
 | some u =>
  have hcp:c∈path f v:=List.mem_of_head? hc
  have hcn:=hf.path_lt hcp
  have h1:=hf.path_pre hcp
  rw [hf.ptS hcn hu] at h1
  obtain ⟨R,hR⟩:=h1
  have h2:=hf.ptF (hf.lt c u hcn hu)
  cases e:path f u with
  | nil=>rw [e] at h2;simp at h2
  | cons b l =>
   rw [e] at hR
   rw [← hR] at hc
   cases hc
   exact absurd (by rw [e];simp) (hf.not_up hcn hu)
theorem Rp.on_row (h:Rp f s ov) {v c:Nat} (hr:s.r v=path f v) (hc:c∈path f v) (hu:(f.up c).isSome=true):pf s c=true:=by
 unfold pf
 rw [h.sg.same v c (by rw [hr];exact hc),hr]
 simp only [decide_eq_true_eq]
 intro e
 rw [root_up h.fg e] at hu
 cases hu
theorem lp_cost {v a:Nat} (h:Lp f s0 s ov v [] a) (hv:v<f.v.length) (hr:s.r v=path f v):turns f (pf s0) v+idle f (pf s)≤idle f (pf s0)+2*lights f (path f v)+1 :=
 h.rp.fg.access hv (fun c _ hc hu=>h.rp.on_row hr hc hu) (fun c _ hc hu=>h.off c hc hu)
theorem lights_log (h:Good f) {v:Nat} (hv:v<f.v.length):lights f (path f v)≤f.v.length.log2:=by
 obtain ⟨k,hk⟩:=h.dep v hv
 have:=h.lights_le hv hk
 omega
theorem lights_root {v:Nat} (h:Good f) (hv:v<f.v.length) (hu:f.up v=none):lights f (path f v)=0:=by
 rw [h.path_top hv hu];simp [lights,hu]
theorem rp_link (h:Rp f s ov) {v w:Nat} (hv:v<f.v.length) (hw:w<f.v.length) (hu:f.up v=none) (hne:root f w≠some v) (hr:s.r w=path f w) :
  Rp (linkF f v w) s (fun x=>if x=v then some w else ov x)∧idle (linkF f v w) (pf s)≤idle f (pf s)+f.v.length.log2+1:=by
 have hf':=good_link h.fg hv hw hu hne
 obtain ⟨hp,hn⟩:=near_link h.fg hu hw hv hne
 have hR:Rp (linkF f v w) s (fun x=>if x=v then some w else ov x):=by
  refine ⟨h.val,h.sg,hf',fun x a b hb=>?_,fun x a ha=>?_⟩
  ·obtain ⟨g1,g2⟩:=h.inn x a b hb
   have:b≠v:=fun c=>by rw [c,hu] at g1;cases g1
   exact ⟨by show (if b=v then some w else f.up b)=some a;rw [if_neg this];exact g1,by rw [if_neg this];exact g2⟩
  ·show (if a=v then some w else f.up a)=if a=v then some w else ov a
   split
   ·rfl
   ·exact h.fst x a ha
 refine ⟨hR,?_⟩
 have h1:=hn.idle_le h.fg hf' hw (pf:=pf s) (pf':=pf s) (fun c _ hc hcu=>hR.on_row (v:=w) (by rw [hp];exact hr) hc hcu) (fun c _ _ _ _=>rfl)
 have h2:=lights_log hf' (v:=w) hw
 have h3:(linkF f v w).v.length=f.v.length:=rfl
 rw [h3] at h2
 omega
theorem cut_rows (h:Rp f s ov) {v u:Nat} (hv:v<f.v.length) (hu:f.up v=some u) (hr:s.r v=path f v) (z:Nat):(Sp.splitS s (v:Int)).r z=if z∈path f u then path f u else if z=v then [v] else s.r z:=by
 unfold Sp.splitS Sp.cutR
 have hn:=h.fg.path_nodup v
 rw [Sp.rZn,Int.toNat_natCast,hr,h.fg.ptS hv hu] at *
 rw [idx_mid hn,List.take_left,List.drop_left]
 simp
theorem rp_cut (h:Rp f s ov) {v u:Nat} (hv:v<f.v.length) (hu:f.up v=some u) (hr:s.r v=path f v) :
  Rp (cutF f v) (Sp.splitS s (v:Int)) ov∧idle (cutF f v) (pf (Sp.splitS s (v:Int)))≤idle f (pf s)+f.v.length.log2+1:=by
 have hf':=good_cut h.fg v
 have hun:=h.fg.lt v u hv hu
 obtain ⟨hp,hn⟩:=near_cut h.fg hv hu
 have er:=cut_rows h hv hu hr
 have hnd:=h.fg.path_nodup v
 have hps:=h.fg.ptS hv hu
 have hvu:=h.fg.not_up hv hu
 have hov:ov v=none:=by
  rcases h.at hv with ⟨g1,g2⟩ | ⟨_,_,_,_,g⟩
  ·have:=h.on_row hr (h.fg.ptF hv) (by rw [hu];rfl)
   rw [g1] at this;cases this
  ·exact g
 have hR:Rp (cutF f v) (Sp.splitS s (v:Int)) ov:=by
  refine ⟨h.val,Sp.good_split h.sg _,hf',fun x a b hb=>?_,fun x a ha=>?_⟩
  ·rw [er] at hb
   have key:b≠v∧∃ y,Pv (s.r y) a b:=by
    split at hb
    ·exact ⟨fun c=>hvu (by rw [← c];exact hb.mem.2),v,by rw [hr,hps];exact hb.left⟩
    ·split at hb
     ·obtain ⟨A,C,e⟩:=hb
      have:=congrArg List.length e
      simp at this
      omega
     ·rename_i c1 c2
      refine ⟨fun c=>?_,x,hb⟩
      subst c
      have e1:=h.sg.same x b hb.mem.2
      rcases Nat.lt_or_ge x s.v.length with hx | hx
      ·have:=h.sg.mem x hx
       rw [← e1,hr,hps] at this
       rcases List.mem_append.1 this with g | g
       ·exact c1 g
       ·simp at g;exact c2 g
      ·rw [h.sg.none x hx] at hb
       exact absurd hb.mem.1 (by simp)
   obtain ⟨hbv,y,hy⟩:=key
   obtain ⟨g1,g2⟩:=h.inn y a b hy
   exact ⟨by show (if b=v then none else f.up b)=some a;rw [if_neg hbv];exact g1,g2⟩
  ·rw [er] at ha
   show (if a=v then none else f.up a)=ov a
   split at ha
   ·have ha':(s.r v).head? = some a:=by
     rw [hr,hps,List.head?_append,ha];rfl
    rw [if_neg (fun c=>hvu (by rw [← c];exact List.mem_of_head? ha))]
    exact h.fst v a ha'
   ·split at ha
    ·simp at ha
     rw [if_pos ha.symm,← ha,hov]
    ·rename_i c1 c2
     by_cases c:a=v
     ·rw [if_pos c,c,hov]
     ·rw [if_neg c];exact h.fst x a ha
 refine ⟨hR,?_⟩
 have h1:=hn.idle_le h.fg hf' hun (pf:=pf s) (pf':=pf (Sp.splitS s (v:Int))) (fun c _ hc hcu=>hR.on_row (v:=u) (by
  rw [er,hp,if_pos (h.fg.ptF hun)]) hc hcu) (fun c _ hc hcp hcu=>by
  have hcv:c≠v:=fun e=>by subst e;simp [cutF] at hcu
  rw [hp] at hc
  unfold pf
  rw [er,if_neg hc,if_neg hcv])
 have h2:=lights_log hf' (v:=u) hun
 have h3:(cutF f v).v.length=f.v.length:=rfl
 rw [h3] at h2
 omega
theorem path_val {f:Ft} {v':List Int} (h:v'.length=f.v.length) (x:Nat):path ⟨v',f.up⟩ x=path f x:=by
 unfold path
 rw [show (⟨v',f.up⟩:Ft).v.length=f.v.length from h]
theorem idle_val {f:Ft} {v':List Int} (h:v'.length=f.v.length) (p:Nat→Bool):idle ⟨v',f.up⟩ p=idle f p:=by
 have hs:∀ x,sz ⟨v',f.up⟩ x=sz f x:=fun x=>by
  unfold sz
  rw [show (⟨v',f.up⟩:Ft).v.length=f.v.length from h]
  simp only [path_val h]
 have hh:∀ c,heavy ⟨v',f.up⟩ c=heavy f c:=fun c=>by
  unfold heavy
  simp only [hs]
 unfold idle
 rw [show (⟨v',f.up⟩:Ft).v.length=f.v.length from h]
 simp only [hh]
theorem addE_eq (h:Rp f s ov) {v:Nat} (hr:s.r v=path f v) (d:Int):Sp.addE s (v:Int) d=addE f (v:Int) d:=by
 unfold Sp.addE addE
 rw [Sp.rZn,pathZ_nat,hr,h.val]
theorem leastZ_eq (h:Rp f s ov) {v:Nat} (hr:s.r v=path f v):Sp.leastZ s (v:Int)=leastZ f (v:Int):=by
 unfold Sp.leastZ leastZ
 rw [Sp.rZn,pathZ_nat,hr,h.val]
theorem rp_add (h:Rp f s ov) {v:Nat} (hr:s.r v=path f v) (d:Int):Rp (addS f (v:Int) d) (Sp.addS s (v:Int) d) ov∧idle (addS f (v:Int) d) (pf (Sp.addS s (v:Int) d))=idle f (pf s):=by
 have e:=addE_eq h hr d
 unfold Sp.addS addS
 rw [e]
 by_cases c:addE f (v:Int) d=0
 ·have hg:=good_addS h.fg (v:Int) d
  have hg2:=Sp.good_add h.sg (v:Int) d
  unfold addS at hg
  unfold Sp.addS at hg2
  rw [e] at hg2
  rw [if_pos c] at hg hg2
  rw [if_pos c,if_pos c]
  refine ⟨⟨?_,hg2,hg,h.inn,h.fst⟩,?_⟩
  ·show Sp.addL s.v (Sp.rowZ s (v:Int)) d=Sp.addL f.v (pathZ f (v:Int)) d
   rw [Sp.rZn,pathZ_nat,hr,h.val]
  ·exact idle_val (Sp.addL_len _ _ _) _
 ·rw [if_neg c,if_neg c]
  exact ⟨h,rfl⟩
theorem rp_new {vs:List Int} (h:Sp.newE vs=0):Rp (newS vs) (Sp.newS vs) (fun _=>none)∧idle (newS vs) (pf (Sp.newS vs))=0:=by
 refine ⟨⟨rfl,Sp.good_new h,good_new h,fun x a b hb=>?_,fun x a ha=>rfl⟩,?_⟩
 ·have hb':Pv (if x<vs.length then [x] else []) a b:=hb
  obtain ⟨A,C,e⟩:=hb'
  have:=congrArg List.length e
  split at this <;> simp at this <;> omega
 ·unfold idle
  refine List.countP_eq_zero.2 fun c _=>?_
  simp [heavy,newS]
end
end Fo
namespace Fo
section
variable {f:Ft}
theorem there_nat {v:Nat} (hv:v<f.v.length):there f (v:Int):=⟨by omega,by omega⟩
theorem aboveZ_nat {v:Nat} (hv:v<f.v.length):aboveZ f (v:Int)=oz (f.up v):=by unfold aboveZ;rw [if_pos (there_nat hv),Int.toNat_natCast]
end
end Fo
end Go.Proofs.YtoadkckceladgaaGreat
namespace Go.Proofs.YtoadkckceladgaaGreat
open Go.ChangeShapes Go.WideShapes Go.ChangeAt Go.RowKit
open Lib (hid)
namespace Sp
structure Off (F:Nat→Prop) (w w2:World):Prop where
 os:w2.os=w.os
 tape:w2.tape=w.tape
 output:w2.output=w.output
 size:w.heap.size≤w2.heap.size
 block:∀ k,k<w.heap.size→¬ F k→w2.heap[k]? = w.heap[k]?
section
variable {F F' G:Nat→Prop} {w w2 w3:World} {B:Nat}
theorem Off.refl (F:Nat→Prop) (w:World):Off F w w:=⟨rfl,rfl,rfl,Nat.le_refl _,fun _ _ _=>rfl⟩
theorem Off.trans (h:Off F w w2) (k:Off F' w2 w3) (hF:∀ g,F' g→F g∨w.heap.size≤g):Off F w w3 :=
 ⟨k.os.trans h.os,k.tape.trans h.tape,k.output.trans h.output,Nat.le_trans h.size k.size,fun i h1 h2=>(k.block i (Nat.lt_of_lt_of_le h1 h.size) fun c=>by
  rcases hF i c with c | c
  ·exact h2 c
  ·omega).trans (h.block i h1 h2)⟩
theorem Off.of_below (h:Below w.heap.size w w2):Off F w w2:=⟨h.os,h.tape,h.output,h.size,fun k hk _=>h.block k hk⟩
theorem Off.then (h:Off F w w2) (k:Below w2.heap.size w2 w3):Off F w w3:=h.trans (.of_below (F:=F) k) fun g hg=>.inl hg
theorem Off.first (h:Below w.heap.size w w2) (k:Off F w2 w3):Off F w w3:=(Off.of_below (F:=F) h).trans k fun g hg=>.inl hg
theorem Off.below (h:Off F w w2) (hF:∀ g,F g→B≤g) (h0:B≤w.heap.size):Below B w w2:=⟨h.os,h.tape,h.output,h.size,fun k hk=>h.block k (by omega) fun c=>by have:=hF k c;omega⟩
theorem Off.mono (h:Off F w w2) (hF:∀ g,F g→G g):Off G w w2:=⟨h.os,h.tape,h.output,h.size,fun k h1 h2=>h.block k h1 fun c=>h2 (hF k c)⟩
theorem Off.set (h:Off F w w2) {p:Addr} (hp:F p.block∨w.heap.size≤p.block) (v:Value):Off F w (w2.setCell p v) :=
 ⟨h.os,h.tape,h.output,by have:=h.size;simpa [World.setCell] using this,fun k h1 h2=>(Below.heap_setCell _ _ _ _ fun e=>by
  subst e
  rcases hp with c | c
  ·exact h2 c
  ·omega).trans (h.block k h1 h2)⟩
theorem Off.alloc (h:Off F w w2) (o:Obj):Off F w (w2.alloc o):=h.then ((Below.refl _ _).alloc (Nat.le_refl _) o)
theorem Off.grown {row:Option Nat} (h:Off F w w2) (hg:w2.grownBy w3 row) (hr:∀ k,row=some k→F k∨w.heap.size≤k):Off F w w3 :=
 ⟨hg.os.trans h.os,hg.tape.trans h.tape,hg.output.trans h.output,Nat.le_trans h.size hg.size,fun k h1 h2=>(hg.block k (Nat.lt_of_lt_of_le h1 h.size) fun e=>by
  rcases hr k e.symm with c | c
  ·exact h2 c
  ·omega).trans (h.block k h1 h2)⟩
end
def Ext (F:Nat→Prop) (w w2:World) (g:Nat):Prop:=F g∨(w.heap.size≤g∧g<w2.heap.size)
section
variable {w w2 w3:World} {F:Nat→Prop}
theorem ext_two {g:Nat} (h:Ext (Ext F w w2) w2 w3 g) (h1:w.heap.size≤w2.heap.size) (h2:w2.heap.size≤w3.heap.size):Ext F w w3 g:=by
 rcases h with (h | h) | h
 ·exact .inl h
 ·exact .inr ⟨h.1,by omega⟩
 ·exact .inr ⟨by omega,h.2⟩
end
end Sp
namespace Sp
section
variable {w:World} {B p m:Nat} {F:Nat→Prop} {s:St}
theorem leastL_snoc (v:List Int) (l:List Nat) (i:Nat):leastL v (l ++ [i])=if leastL v l<0∨Ne.amt v i<Ne.amt v (leastL v l).toNat then (i:Int) else leastL v l:=by
 unfold leastL;rw [List.foldl_append];rfl
theorem ext_in {w w2:World} {B:Nat} {F:Nat→Prop} (hf:∀ g,F g→B≤g∧g<w.heap.size) (hBw:B≤w.heap.size) (hs:w.heap.size≤w2.heap.size):∀ g,Ext F w w2 g→B≤g∧g<w2.heap.size:=fun g hg=>by
 rcases hg with c | c
 ·have:=hf g c;omega
 ·omega
theorem off_two {w w2 w3:World} {F:Nat→Prop} (h1:Off F w w2) (h2:Off (Ext F w w2) w2 w3):Off F w w3:=h1.trans h2 fun g hg=>by
 rcases hg with c | c
 ·exact .inl c
 ·exact .inr c.1
end
end Sp
end Go.Proofs.YtoadkckceladgaaGreat
namespace Go.Proofs.YtoadkckceladgaaGreat
namespace Fo
theorem snoc_ind {P:List Nat→Prop} (h0:P []) (h1:∀ l a,P l→P (l ++ [a])):∀ l,P l:=by
 have:∀ n (l:List Nat),l.length=n→P l:=by
  intro n
  induction n with
  | zero=>intro l hl;rw [List.eq_nil_of_length_eq_zero hl];exact h0
  | succ n ih =>
   intro l hl
   rcases List.eq_nil_or_concat l with rfl | ⟨A,a,rfl⟩
   ·simp at hl
   ·rw [List.concat_eq_append] at hl ⊢
    exact h1 A a (ih A (by simpa using hl))
 exact fun l=>this l.length l rfl
theorem least_split (v:List Int):∀ l:List Nat,l=[]∧Sp.leastL v l = -1∨∃ (t:List Nat) (a:Nat) (u:List Nat),l=t ++ a :: u∧Sp.leastL v l=(a:Int)∧(∀ y∈t,Ne.amt v a<Ne.amt v y)∧∀ y∈u,Ne.amt v a≤Ne.amt v y:=by
 refine snoc_ind (.inl ⟨rfl,rfl⟩) fun l i ih=>.inr ?_
 rcases ih with ⟨rfl,h⟩ | ⟨t,a,u,rfl,h1,h2,h3⟩
 ·refine ⟨[],i,[],rfl,?_,by simp,by simp⟩
  rw [Sp.leastL_snoc,h,if_pos (.inl (by omega))]
 ·by_cases c:Ne.amt v i<Ne.amt v a
  ·refine ⟨t ++ a :: u,i,[],rfl,?_,fun y hy=>?_,by simp⟩
   ·rw [Sp.leastL_snoc,h1,if_pos (.inr (by simpa using c))]
   ·rcases List.mem_append.1 hy with d | d
    ·have:=h2 y d;omega
    ·rcases List.mem_cons.1 d with e | e
     ·rw [e];exact c
     ·have:=h3 y e;omega
  ·refine ⟨t,a,u ++ [i],by simp,?_,h2,fun y hy=>?_⟩
   ·rw [Sp.leastL_snoc,h1,if_neg (by simp;omega)]
   ·rcases List.mem_append.1 hy with d | d
    ·exact h3 y d
    ·simp at d;rw [d];omega
section
variable {f:Ft}
theorem leastZ_nat (f:Ft) (v:Nat):leastZ f (v:Int)=Sp.leastL f.v (path f v):=by unfold leastZ;rw [pathZ_nat]
theorem least_says (h:Good f) {v:Nat} (hv:v<f.v.length):∃ k le:Nat,(path f v)[k]? = some le∧leastZ f (v:Int)=(le:Int)∧le<f.v.length∧k<(path f v).length ∧
  (∀ i y:Nat,(path f v)[i]? = some y→¬ Ne.amt f.v y<Ne.amt f.v le)∧(∀ i y:Nat,(path f v)[i]? = some y→i<k→Ne.amt f.v y≠Ne.amt f.v le)∧(∀ i y:Nat,(path f v)[i]? = some y→(y=le↔i=k)):=by
 have hn:=h.path_nodup v
 rw [leastZ_nat]
 rcases least_split f.v (path f v) with ⟨h1,_⟩ | ⟨t,a,u,h1,h2,h3,h4⟩
 ·have:=h.ptF hv;rw [h1] at this;simp at this
 ·have hat:(path f v)[t.length]? = some a:=by rw [h1,List.getElem?_append_right (Nat.le_refl _),Nat.sub_self];rfl
  refine ⟨t.length,a,hat,h2,h.path_lt (x:=v) (by rw [h1];simp),by rw [h1];simp,fun i y hy=>?_,fun i y hy hi=>?_,fun i y hy=>?_⟩
  ·have hm:=List.mem_of_getElem? hy
   rw [h1] at hm
   rcases List.mem_append.1 hm with d | d
   ·have:=h3 y d;omega
   ·rcases List.mem_cons.1 d with e | e
    ·rw [e];omega
    ·have:=h4 y e;omega
  ·rw [h1,List.getElem?_append_left hi] at hy
   have:=h3 y (List.mem_of_getElem? hy)
   omega
  ·constructor
   ·intro e
    rw [e] at hy
    exact (List.getElem?_inj (List.getElem?_eq_some_iff.1 hy).1 hn).1 (by rw [hy,hat])
   ·intro e
    rw [e,hat] at hy
    exact (Option.some.inj hy).symm
end
end Fo
namespace Ne
open Fo (Ft)
theorem sum_le_map {TL:List Nat} {h h2:Nat→Int} (hh:∀ r∈TL,h r≤h2 r):(TL.map h).sum≤(TL.map h2).sum:=by
 induction TL with
 | nil=>simp
 | cons r TL ih =>
  have h1:=ih fun q hq=>hh q (List.mem_cons_of_mem _ hq)
  have h2:=hh r (by simp)
  simp only [List.map_cons,List.sum_cons]
  omega
theorem sum_nn {TL:List Nat} {h:Nat→Int} (h0:∀ r∈TL,0≤h r):0≤(TL.map h).sum:=by
 induction TL with
 | nil=>simp
 | cons r TL ih =>
  have h1:=ih fun q hq=>h0 q (List.mem_cons_of_mem _ hq)
  have h2:=h0 r (by simp)
  simp only [List.map_cons,List.sum_cons]
  omega
theorem sum_mem {TL:List Nat} {h:Nat→Int} (h0:∀ r∈TL,0≤h r) {q:Nat} (hq:q∈TL):h q≤(TL.map h).sum:=by
 induction TL with
 | nil=>simp at hq
 | cons r TL ih =>
  have h1:=sum_nn fun q hq=>h0 q (List.mem_cons_of_mem _ hq)
  have h2:=h0 r (by simp)
  simp only [List.map_cons,List.sum_cons]
  rcases List.mem_cons.1 hq with e | hq
  ·subst e;omega
  ·have:=ih (fun q hq=>h0 q (List.mem_cons_of_mem _ hq)) hq;omega
theorem sum_drop {TL:List Nat} {h h2:Nat→Int} {a:Int} (hh:∀ r∈TL,h2 r≤h r) {q:Nat} (hq:q∈TL) (e:h2 q+a≤h q):(TL.map h2).sum+a≤(TL.map h).sum:=by
 induction TL with
 | nil=>simp at hq
 | cons r TL ih =>
  have h1:=sum_le_map fun q hq=>hh q (List.mem_cons_of_mem _ hq)
  have h3:=hh r (by simp)
  simp only [List.map_cons,List.sum_cons]
  rcases List.mem_cons.1 hq with e2 | hq
  ·subst e2;omega
  ·have:=ih (fun q hq=>hh q (List.mem_cons_of_mem _ hq)) hq;omega
theorem sum_idx:∀ {Q:List Nat} {k:Nat} {h:Nat→Int},Q.Nodup→(∀ i∈Q,i<k)→(∀ i,i<k→0≤h i)→(Q.map h).sum≤sumTo h k
 | [],k,h,_,_,h0=>by simpa using sumTo_nn h0
 | q :: Q,k,h,hn,hk,h0=>by
  obtain ⟨n1,n2⟩:=List.nodup_cons.1 hn
  have e:=sumTo_one (g:=h) (j:=q) (-h q) (k:=k) (hk q (by simp))
  have ih:=sum_idx (Q:=Q) (k:=k) (h:=fun i=>if i=q then h i + -h q else h i) n2 (fun i hi=>hk i (List.mem_cons_of_mem _ hi)) (fun i hi=>by
   by_cases c:i=q
   ·simp only [if_pos c];subst c;omega
   ·simp only [if_neg c];exact h0 i hi)
  rw [e] at ih
  have e2:Q.map (fun i=>if i=q then h i + -h q else h i)=Q.map h:=List.map_congr_left fun i hi=>by
   have c:i≠q:=fun c=>n1 (by rw [← c];exact hi)
   simp only [if_neg c]
  rw [e2] at ih
  simp only [List.map_cons,List.sum_cons]
  omega
theorem addSF_len (f:Ft) (x d:Int):(Fo.addS f x d).v.length=f.v.length:=by
 unfold Fo.addS
 split
 ·exact Sp.addL_len _ _ _
 ·rfl
def tot (l:List Arc) (TL:List Nat) (g:List Int):Int:=(TL.map (roomN l g)).sum
theorem half_nodup {l:List Arc} {L:List Int} {TL:List Nat} (hL:Lds l L TL):(TL.map (· / 2)).Nodup:=by
 refine List.pairwise_map.2 (hL.srt.imp_of_mem fun {a b} ha hb hab e=>?_)
 rcases same_half (r:=a) (q:=b) e with c | c
 ·omega
 ·exact lds_opp hL ha (c▸hb)
section
variable {n:Net} {TL:List Nat} {g:List Int} {x:Int} {U:Nat→List Nat} {f f2:Ft} {RL:List Int} {S:List Bool} {L:List Int}
theorem tot_le (hR:Right n) (hL:Lds n.l L TL) (hw:wi n.l g):tot n.l TL g≤4611686018427387903:=by
 have h1:tot n.l TL g≤(TL.map fun r=>(arcAt n.l (r / 2)).cap).sum:=sum_le_map fun r hr=>(room_nn hw (hL.lt r hr)).2
 have h2:=sum_idx (h:=fun i=>(arcAt n.l i).cap) (k:=n.l.length) (half_nodup hL) (fun i hi=>by
  obtain ⟨r,hr,e⟩:=List.mem_map.1 hi
  have:=hL.lt r hr
  omega) hR.cap0
 rw [List.map_map] at h2
 have h3:(TL.map ((fun i=>(arcAt n.l i).cap) ∘ fun x=>x / 2))=TL.map fun r=>(arcAt n.l (r / 2)).cap:=rfl
 rw [h3] at h2
 have h4:=hR.sum
 unfold capS at h4
 omega
structure Tre (n:Net) (TL:List Nat) (g:List Int) (x:Int) (U:Nat→List Nat) (f:Ft) (RL:List Int) (S:List Bool):Prop where
 srch:Srch n TL g x (roomL n.l g (2*n.l.length)) U
 good:Fo.Good f
 len:f.v.length=n.n.toNat+1
 rlen:RL.length=2*n.l.length
 slen:S.length=n.n.toNat+1
 hung:∀ v u,f.up v=some u→∃ r T,U v=r :: T∧(trT n.l r).toNat=u∧amt f.v v=roomN n.l g r
 top:∀ v,v<n.n.toNat+1→f.up v=none→v≠n.t.toNat→amt f.v v=4611686018427387904
 sink:f.up n.t.toNat=none
 snk:tot n.l TL g<amt f.v n.t.toNat∧amt f.v n.t.toNat≤4611686018427387904
 rl:∀ r∈TL,(f.up (trF n.l r).toNat=none∨∀ T,U (trF n.l r).toNat≠r :: T)→amt RL r=roomN n.l g r
 dead:∀ v,S.getD v false=true→v≠n.t.toNat∧∀ R,¬ Wlk n.l TL g x (v:Int) R n.t
theorem Tre.lt (h:Tre n TL g x U f RL S) {v u:Nat} (hu:f.up v=some u):v<n.n.toNat+1:=by
 rcases Nat.lt_or_ge v (n.n.toNat+1) with c | c
 ·exact c
 ·rw [h.good.out v (by rw [h.len];exact c)] at hu;cases hu
theorem Tre.says (hR:Right n) (hL:Lds n.l L TL) (h:Tre n TL g x U f RL S) {v u:Nat} (hu:f.up v=some u):∃ r T,U v=r :: T∧r∈TL∧trF n.l r=(v:Int)∧trT n.l r=(u:Int)∧amt f.v v=roomN n.l g r∧u<n.n.toNat+1∧amt L u=amt L v+1:=by
 obtain ⟨r,T,e,h1,h2⟩:=h.hung v u hu
 have hv:=h.lt hu
 obtain ⟨h3,h4⟩:=h.srch.sub v hv r (by rw [e];simp)
 have hr:=hL.lt r h3
 have b1:=tFb hR hr
 have b2:=tTb hR hr
 have h5:=hL.up r h3
 rw [h4,h1] at h5
 exact ⟨r,T,e,h3,by omega,by omega,h2,by omega,h5⟩
theorem Tre.rnn (hR:Right n) (hL:Lds n.l L TL) (hw:wi n.l g):∀ r∈TL,0≤roomN n.l g r∧roomN n.l g r≤4611686018427387903:=fun r hr=>by
 have h1:=room_nn hw (hL.lt r hr)
 have h2:=cap_topR hR (i:=r / 2) (by have:=hL.lt r hr;omega)
 omega
theorem Tre.root_lev (hR:Right n) (hL:Lds n.l L TL) (h:Tre n TL g x U f RL S) {y k:Nat} (hd:Fo.Dp f.up y k):y<n.n.toNat+1→∀ z,Fo.root f y=some z→amt L y+(k:Int)=amt L z:=by
 induction hd with
 | @top y h1 =>
  intro hy z hz
  rw [h.good.root_top (by rw [h.len];exact hy) h1] at hz
  cases hz
  simp
 | @step y u k h1 _ ih =>
  intro hy z hz
  rw [h.good.root_step (by rw [h.len];exact hy) h1] at hz
  obtain ⟨r,T,_,_,_,_,_,hu,hl⟩:=h.says hR hL h1
  have:=ih hu z hz
  omega
theorem tre_start (hR:Right n) (hL:Lds n.l L TL) (hw:wi n.l g) (hF:Fo.Good (Fo.newS (List.replicate (n.n.toNat+1) 4611686018427387904))) :
  Tre n TL g x (fun v=>TL.filter fun r=>decide ((trF n.l r).toNat=v)) (Fo.newS (List.replicate (n.n.toNat+1) 4611686018427387904)) (roomL n.l g (2*n.l.length)) (List.replicate (n.n.toNat+1) false):=by
 have hrep:∀ i,i<n.n.toNat+1→amt (List.replicate (n.n.toNat+1) 4611686018427387904) i=4611686018427387904:=fun i hi=>by
  unfold amt
  rw [List.getD_eq_getElem?_getD,List.getElem?_replicate,if_pos hi]
  rfl
 have ht:n.t.toNat<n.n.toNat+1:=by have:=hR.t0;have:=hR.t1;omega
 refine ⟨srch_start hR hL g x,hF,by simp [Fo.newS],rLl _ _ _,by simp,fun v u hu=>(by cases hu),fun v hv _ _=>hrep v hv,rfl,?_,fun r hr _=>roomL_at _ _ (hL.lt r hr),fun v hv=>?_⟩
 ·show tot n.l TL g<amt (List.replicate (n.n.toNat+1) 4611686018427387904) n.t.toNat∧amt (List.replicate (n.n.toNat+1) 4611686018427387904) n.t.toNat≤_
  rw [hrep _ ht]
  have:=tot_le hR hL hw
  omega
 ·rw [replB] at hv;cases hv
structure Off1 (f f2:Ft) (v:Nat):Prop where
 good:Fo.Good f2
 len:f2.v.length=f.v.length
 up:∀ y,f2.up y=if y=v then none else f.up y
 val:∀ y,y<f.v.length→amt f2.v y=if y=v then 4611686018427387904 else amt f.v y
theorem off1_part (h:Fo.Good f) {v u:Nat} (hv:v<f.v.length) (hu:f.up v=some u) (hn:0≤amt f.v v):Fo.cutE f (v:Int)=0∧Off1 f (Fo.addS (Fo.cutS f (v:Int)) (v:Int) (4611686018427387904-amt f.v v)) v:=by
 have e0:Fo.cutE f (v:Int)=0:=by unfold Fo.cutE;rw [if_neg (by simp [Fo.there_nat hv]),Int.toNat_natCast,if_neg (by rw [hu];simp)]
 have e1:Fo.cutS f (v:Int)=Fo.cutF f v:=by unfold Fo.cutS;rw [e0,if_pos rfl,Int.toNat_natCast]
 rw [e1]
 have hg:=Fo.good_cut h v
 have hp:Fo.pathZ (Fo.cutF f v) (v:Int)=[v]:=by rw [Fo.pathZ_nat];exact hg.path_top hv (by show (if v=v then none else f.up v)=none;rw [if_pos rfl])
 have hb:=h.bnd v hv
 have e2:Fo.addE (Fo.cutF f v) (v:Int) (4611686018427387904-amt f.v v)=0:=by
  unfold Fo.addE
  rw [hp,if_neg (by simp),if_pos]
  intro i hi
  simp at hi
  subst hi
  refine (Sp.fits_iff _ _ (h.bnd i hv)).2 ?_
  show -Sp.big≤amt f.v i+_∧amt f.v i+_≤Sp.big
  unfold Sp.big
  omega
 refine ⟨e0,Fo.good_addS hg _ _,addSF_len _ _ _,fun y=>?_,fun y hy=>?_⟩
 ·unfold Fo.addS;rw [e2,if_pos rfl];rfl
 ·unfold Fo.addS;rw [e2,if_pos rfl,hp]
  show amt (Sp.addL f.v [v] _) y=_
  rw [Sp.addL_at hy]
  by_cases c:y=v
  ·subst c;rw [if_pos (by simp),if_pos rfl];omega
  ·rw [if_neg (by simpa using c),if_neg c]
theorem tre_part (hR:Right n) (hL:Lds n.l L TL) (h:Tre n TL g x U f RL S) {v u r:Nat} {T:List Nat} (hu:f.up v=some u) (hU:U v=r :: T) (ho:Off1 f f2 v):Tre n TL g x U f2 (RL.set r (amt f.v v)) S:=by
 obtain ⟨r',T',e,h1,h2,h3,h4,h5,h6⟩:=h.says hR hL hu
 rw [hU] at e
 obtain ⟨rfl,rfl⟩:r=r'∧T=T':=by simpa using e
 have hr:=hL.lt r h1
 have hv:=h.lt hu
 have hvt:v≠n.t.toNat:=fun c=>by subst c;rw [h.sink] at hu;cases hu
 have ht:n.t.toNat<f.v.length:=by rw [h.len];have:=hR.t0;have:=hR.t1;omega
 have hrl:r<RL.length:=by rw [h.rlen];exact hr
 refine ⟨h.srch,ho.good,by rw [ho.len,h.len],by rw [List.length_set,h.rlen],h.slen,fun y z hy=>?_,fun y hy hy2 hy3=>?_,?_,?_,fun q hq hq2=>?_,h.dead⟩
 ·rw [ho.up] at hy
  split at hy
  ·cases hy
  ·rename_i c
   have:=ho.val y (by rw [h.len];exact h.lt hy)
   rw [if_neg c] at this
   rw [this]
   exact h.hung y z hy
 ·have e2:=ho.val y (by rw [h.len];exact hy)
  rw [e2]
  split
  ·rfl
  ·rename_i c
   rw [ho.up,if_neg c] at hy2
   exact h.top y hy hy2 hy3
 ·rw [ho.up,if_neg (Ne.symm hvt)];exact h.sink
 ·rw [ho.val _ ht,if_neg (Ne.symm hvt)];exact h.snk
 ·rw [amt_set _ hrl]
  by_cases c:q=r
  ·subst c;rw [if_pos rfl];exact h4
  ·rw [if_neg c]
   refine h.rl q hq ?_
   by_cases c2:(trF n.l q).toNat=v
   ·right
    intro T2 e2
    rw [c2,hU] at e2
    simp at e2
    exact c e2.1.symm
   ·rw [ho.up,if_neg c2] at hq2;exact hq2
theorem tre_hang (hR:Right n) (hL:Lds n.l L TL) (hw:wi n.l g) (h:Tre n TL g x U f RL S) {v r:Nat} {T:List Nat} (hv:v<n.n.toNat+1) (hvt:v≠n.t.toNat) (hup:f.up v=none) (hU:U v=r :: T) :
  amt RL r=roomN n.l g r∧(trT n.l r).toNat<n.n.toNat+1∧Tre n TL g x U (Fo.linkS (Fo.addS f (v:Int) (amt RL r-4611686018427387904)) (v:Int) (trT n.l r)) RL S ∧
  ∀ y,(Fo.linkS (Fo.addS f (v:Int) (amt RL r-4611686018427387904)) (v:Int) (trT n.l r)).up y=if y=v then some (trT n.l r).toNat else f.up y:=by
 obtain ⟨h1,h2⟩:=h.srch.sub v hv r (by rw [hU];simp)
 have hr:=hL.lt r h1
 have b1:=tFb hR hr
 have b2:=tTb hR hr
 have hlev:=hL.up r h1
 rw [h2] at hlev
 obtain ⟨hn1,hn2⟩:=Tre.rnn hR hL hw r h1
 have hrl:=h.rl r h1 (.inl (by rw [h2];exact hup))
 obtain ⟨w,hw2⟩:∃ w,w=(trT n.l r).toNat:=⟨_,rfl⟩
 have htw:trT n.l r=(w:Int):=by omega
 rw [← hw2] at hlev ⊢
 rw [htw,hrl]
 have hwl:w<n.n.toNat+1:=by omega
 have hvf:v<f.v.length:=by rw [h.len];exact hv
 have hwf:w<f.v.length:=by rw [h.len];exact hwl
 have hp:Fo.pathZ f (v:Int)=[v]:=by rw [Fo.pathZ_nat];exact h.good.path_top hvf hup
 have hb:=h.top v hv hup hvt
 have e2:Fo.addE f (v:Int) (roomN n.l g r-4611686018427387904)=0:=by
  unfold Fo.addE
  rw [hp,if_neg (by simp),if_pos]
  intro i hi
  simp at hi
  subst hi
  refine (Sp.fits_iff _ _ (h.good.bnd i hvf)).2 ?_
  rw [hb]
  unfold Sp.big
  omega
 obtain ⟨f1,hf1⟩:∃ f1,f1=Fo.addS f (v:Int) (roomN n.l g r-4611686018427387904):=⟨_,rfl⟩
 rw [← hf1]
 have g1:Fo.Good f1:=by rw [hf1];exact Fo.good_addS h.good _ _
 have l1:f1.v.length=f.v.length:=by rw [hf1];exact addSF_len _ _ _
 have u1:f1.up=f.up:=by rw [hf1];unfold Fo.addS;rw [e2,if_pos rfl]
 have v1:∀ y,y<f.v.length→amt f1.v y=if y=v then roomN n.l g r else amt f.v y:=fun y hy=>by
  rw [hf1];unfold Fo.addS;rw [e2,if_pos rfl,hp]
  show amt (Sp.addL f.v [v] _) y=_
  rw [Sp.addL_at hy]
  by_cases c:y=v
  ·subst c;rw [if_pos (by simp),if_pos rfl,hb];omega
  ·rw [if_neg (by simpa using c),if_neg c]
 have hroot:Fo.root f w≠some v:=fun c=>by
  obtain ⟨k,hk⟩:=h.good.dep w hwf
  have:=h.root_lev hR hL hk hwl v c
  omega
 have r1:Fo.root f1 w=Fo.root f w:=by
  have:∀ k,Fo.pth f1.up k w=Fo.pth f.up k w:=fun k=>by rw [u1]
  unfold Fo.root Fo.path
  rw [l1,this]
 have eL:Fo.linkE f1 (v:Int) (w:Int)=0:=by
  obtain ⟨z,z1,z2,z3,z4⟩:=g1.rootZ_eq (x:=w) (by rw [l1];exact hwf)
  unfold Fo.linkE
  rw [if_neg (by simp [Fo.there_nat (f:=f1) (v:=v) (by rw [l1];exact hvf),Fo.there_nat (f:=f1) (v:=w) (by rw [l1];exact hwf)]),Int.toNat_natCast,u1,hup,if_neg (by simp),if_neg]
  rw [z2]
  intro c
  rw [r1] at z1
  exact hroot (by rw [z1];congr 1;omega)
 have eS:Fo.linkS f1 (v:Int) (w:Int)=Fo.linkF f1 v w:=by unfold Fo.linkS;rw [eL,if_pos rfl,Int.toNat_natCast,Int.toNat_natCast]
 have hupF:∀ y,(Fo.linkF f1 v w).up y=if y=v then some w else f.up y:=fun y=>by show (if y=v then some w else f1.up y)=_;rw [u1]
 rw [eS]
 refine ⟨rfl,hwl,⟨h.srch,?_,by show f1.v.length=_;rw [l1,h.len],h.rlen,h.slen,fun y z hy=>?_,fun y hy hy2 hy3=>?_,?_,?_,fun q hq hq2=>?_,h.dead⟩,hupF⟩
 ·have:=Fo.good_linkS g1 (v:Int) (w:Int)
  rwa [eS] at this
 ·rw [hupF] at hy
  show ∃ r T,U y=r :: T∧(trT n.l r).toNat=z∧amt f1.v y=_
  split at hy
  ·rename_i c
   subst c
   cases hy
   exact ⟨r,T,hU,by omega,by rw [v1 _ hvf,if_pos rfl]⟩
  ·rename_i c
   rw [v1 y (by rw [h.len];exact h.lt hy),if_neg c]
   exact h.hung y z hy
 ·show amt f1.v y=_
  rw [hupF] at hy2
  split at hy2
  ·cases hy2
  ·rename_i c
   rw [v1 y (by rw [h.len];exact hy),if_neg c]
   exact h.top y hy hy2 hy3
 ·rw [hupF,if_neg (Ne.symm hvt)];exact h.sink
 ·show _<amt f1.v _∧amt f1.v _≤_
  rw [v1 _ (by rw [h.len];have:=hR.t0;have:=hR.t1;omega),if_neg (Ne.symm hvt)];exact h.snk
 ·refine h.rl q hq ?_
  by_cases c2:(trF n.l q).toNat=v
  ·exact .inl (by rw [c2];exact hup)
  ·rw [hupF,if_neg c2] at hq2;exact hq2
theorem tre_drop (hR:Right n) (hL:Lds n.l L TL) (h:Tre n TL g x U f RL S) {v r:Nat} {T:List Nat} (hv:v<n.n.toNat+1) (hup:f.up v=none) (hU:U v=r :: T) (hx:¬ (x≤amt RL r∧S.getD (trT n.l r).toNat false=false)) :
  Tre n TL g x (fun j=>if j=v then T else U j) f RL S:=by
 obtain ⟨h1,h2⟩:=h.srch.sub v hv r (by rw [hU];simp)
 have hr:=hL.lt r h1
 have b2:=tTb hR hr
 have hrl:=h.rl r h1 (.inl (by rw [h2];exact hup))
 rw [hrl] at hx
 have hI:Idle n.l TL g x n.t r:=fun hx2 R hW=>by
  have hs:S.getD (trT n.l r).toNat false=true:=by
   rcases hb:S.getD (trT n.l r).toNat false with _ | _
   ·exact absurd ⟨hx2,hb⟩ hx
   ·rfl
  have:=(h.dead _ hs).2 R
  rw [show (((trT n.l r).toNat:Nat):Int)=trT n.l r by omega] at this
  exact this hW
 refine ⟨srch_drop h.srch hv hU hI,h.good,h.len,h.rlen,h.slen,fun y z hy=>?_,h.top,h.sink,h.snk,fun q hq hq2=>?_,h.dead⟩
 ·have c:y≠v:=fun c=>by subst c;rw [hup] at hy;cases hy
  simp only [if_neg c]
  exact h.hung y z hy
 ·refine h.rl q hq ?_
  by_cases c2:(trF n.l q).toNat=v
  ·exact .inl (by rw [c2];exact hup)
  ·simp only [if_neg c2] at hq2;exact hq2
theorem tre_spend (hR:Right n) (hL:Lds n.l L TL) (h:Tre n TL g x U f RL S) {v:Nat} (hv:v<n.n.toNat+1) (hvt:v≠n.t.toNat) (hU:U v=[]):Tre n TL g x U f RL (S.set v true):=by
 refine ⟨h.srch,h.good,h.len,h.rlen,by rw [List.length_set,h.slen],h.hung,h.top,h.sink,h.snk,h.rl,fun y hy=>?_⟩
 rw [getD_set _ _ _ (by rw [h.slen];exact hv)] at hy
 by_cases c:y=v
 ·subst c
  refine ⟨hvt,srch_none h.srch (by rw [Int.toNat_natCast];exact hU) fun e=>hvt ?_⟩
  omega
 ·rw [if_neg c] at hy;exact h.dead y hy
theorem tre_path (hR:Right n) (hL:Lds n.l L TL) (h:Tre n TL g x U f RL S) {y k:Nat} (hd:Fo.Dp f.up y k):y<n.n.toNat+1→Fo.root f y=some n.t.toNat →
  ∃ R,(∀ r∈R,r∈TL∧(∃ T,U (trF n.l r).toNat=r :: T)∧(∃ u,f.up (trF n.l r).toNat=some u)∧amt f.v (trF n.l r).toNat=roomN n.l g r)∧(∀ z,z∈Fo.path f y↔z=n.t.toNat∨∃ r∈R,(trF n.l r).toNat=z)∧((∀ r∈R,x≤roomN n.l g r)→Wlk n.l TL g x (y:Int) R n.t):=by
 have ht:=hR.t0
 induction hd with
 | @top y h1 =>
  intro hy hz
  rw [h.good.root_top (by rw [h.len];exact hy) h1] at hz
  cases hz
  refine ⟨[],by simp,fun z=>?_,fun _=>?_⟩
  ·rw [h.good.path_top (by rw [h.len];exact hy) h1];simp
  ·rw [show ((n.t.toNat:Nat):Int)=n.t by omega];exact .nil _
 | @step y u k h1 _ ih =>
  intro hy hz
  rw [h.good.root_step (by rw [h.len];exact hy) h1] at hz
  obtain ⟨r,T,e,r1,r2,r3,r4,hu,hl⟩:=h.says hR hL h1
  obtain ⟨R,k1,k2,k3⟩:=ih hu hz
  have hyr:(trF n.l r).toNat=y:=by omega
  refine ⟨r :: R,fun q hq=>?_,fun z=>?_,fun hx=>?_⟩
  ·rcases List.mem_cons.1 hq with c | c
   ·subst c;rw [hyr];exact ⟨r1,⟨T,e⟩,⟨u,h1⟩,r4⟩
   ·exact k1 q c
  ·rw [h.good.ptS (by rw [h.len];exact hy) h1,List.mem_append,k2]
   simp only [List.mem_cons,List.not_mem_nil,or_false,exists_eq_or_imp,hyr]
   constructor
   ·rintro ((c | c) | c)
    ·exact .inl c
    ·exact .inr (.inr c)
    ·exact .inr (.inl c.symm)
   ·rintro (c | (c | c))
    ·exact .inl (.inl c)
    ·exact .inr c.symm
    ·exact .inl (.inr c)
  ·rw [← r2]
   exact .cons r1 (hx r (by simp)) (by rw [r3];exact k3 fun q hq=>hx q (List.mem_cons_of_mem _ hq))
theorem tre_least (hR:Right n) (hL:Lds n.l L TL) (hw:wi n.l g) (h:Tre n TL g x U f RL S) (hs:Fo.root f n.s.toNat=some n.t.toNat) :
  ∃ v u:Nat,Fo.leastZ f (n.s.toNat:Int)=(v:Int)∧v<n.n.toNat+1∧v∈Fo.path f n.s.toNat∧f.up v=some u∧0≤amt f.v v∧amt f.v v≤4611686018427387903∧∀ z∈Fo.path f n.s.toNat,amt f.v v≤amt f.v z:=by
 have hsn:n.s.toNat<n.n.toNat+1:=by have:=hR.s0;have:=hR.s1;omega
 have hsf:n.s.toNat<f.v.length:=by rw [h.len];exact hsn
 obtain ⟨k,le,e1,e2,e3,e4,e5,e6,e7⟩:=Fo.least_says h.good hsf
 have hle:∀ z∈Fo.path f n.s.toNat,amt f.v le≤amt f.v z:=fun z hz=>by
  obtain ⟨i,hi,e⟩:=List.getElem_of_mem hz
  have:=e5 i z (by rw [List.getElem?_eq_getElem hi,e])
  omega
 have hmem:=List.mem_of_getElem? e1
 have hst:n.s.toNat≠n.t.toNat:=fun c=>hR.ne (by have:=hR.s0;have:=hR.t0;omega)
 have hsup:∃ u,f.up n.s.toNat=some u:=by
  cases c:f.up n.s.toNat with
  | none=>rw [h.good.root_top hsf c] at hs;exact absurd (Option.some.inj hs) hst
  | some u=>exact ⟨u,rfl⟩
 obtain ⟨u0,hu0⟩:=hsup
 obtain ⟨r0,T0,_,t1,t2,t3,t4,_⟩:=h.says hR hL hu0
 have hself:=h.good.ptF hsf
 have hnt:le≠n.t.toNat:=fun c=>by
  have h1:=hle _ hself
  rw [c,t4] at h1
  have h2:=sum_mem (fun r hr=>(Tre.rnn hR hL hw r hr).1) t1
  have h3:=h.snk.1
  unfold tot at h3
  omega
 obtain ⟨kd,hd⟩:=h.good.dep _ hsf
 obtain ⟨R,k1,k2,_⟩:=tre_path hR hL h hd hsn hs
 rcases (k2 le).1 hmem with c | ⟨r,hr,c⟩
 ·exact absurd c hnt
 ·obtain ⟨q1,_,⟨u,q2⟩,q3⟩:=k1 r hr
  rw [c] at q2 q3
  have:=Tre.rnn hR hL hw r q1
  exact ⟨le,u,e2,by rw [← h.len];exact e3,hmem,q2,by omega,by omega,hle⟩
theorem tre_push (hR:Right n) (hL:Lds n.l L TL) (hx:1≤x) (hF:Okf n g) (h:Tre n TL g x U f RL S) (hs:Fo.root f n.s.toNat=some n.t.toNat) {a:Int} {v u:Nat} (hv:v∈Fo.path f n.s.toNat) (hu:f.up v=some u) (hva:amt f.v v=a) (hle:∀ z∈Fo.path f n.s.toNat,a≤amt f.v z) (hxa:x≤a) :
  ∃ R g2,FirstW n.l TL g x n.t n.s R∧Least n.l g R a∧pushN n.l g a (encW R)=some g2∧Tre n TL g2 x U (Fo.addS f (n.s.toNat:Int) (-a)) RL S∧(Fo.addS f (n.s.toNat:Int) (-a)).up=f.up∧Beh n.l TL g g2:=by
 have hs0:=hR.s0
 have ht0:=hR.t0
 have hsn:n.s.toNat<n.n.toNat+1:=by have:=hR.s1;omega
 have htn:n.t.toNat<n.n.toNat+1:=by have:=hR.t1;omega
 have hsf:n.s.toNat<f.v.length:=by rw [h.len];exact hsn
 obtain ⟨kd,hd⟩:=h.good.dep _ hsf
 obtain ⟨R,k1,k2,k3⟩:=tre_path hR hL h hd hsn hs
 have hRa:∀ r∈R,a≤roomN n.l g r:=fun r hr=>by
  obtain ⟨_,_,_,q3⟩:=k1 r hr
  rw [← q3]
  exact hle _ ((k2 _).2 (.inr ⟨r,hr,rfl⟩))
 have hW:=k3 fun r hr=>Int.le_trans hxa (hRa r hr)
 rw [show ((n.s.toNat:Nat):Int)=n.s by omega] at hW
 have hFW:=first_heads hR hL h.srch hW fun r hr=>(k1 r hr).2.1
 have hvt:v≠n.t.toNat:=fun c=>by subst c;rw [h.sink] at hu;cases hu
 have hLe:Least n.l g R a:=by
  refine ⟨hRa,?_⟩
  rcases (k2 v).1 hv with c | ⟨r,hr,c⟩
  ·exact absurd c hvt
  ·refine ⟨r,hr,?_⟩
   obtain ⟨_,_,_,q3⟩:=k1 r hr
   rw [c] at q3
   omega
 obtain ⟨g2,hp,hg2,_⟩:=wlk_push hL hW hF.len hRa
 obtain ⟨hB,hT⟩:=beh_push hL hW hF.len (by omega) hRa hp
 have hS2:=srch_push hL hF.len h.srch hx hFW hLe hp
 have hpne:Fo.pathZ f (n.s.toNat:Int)≠[]:=by
  rw [Fo.pathZ_nat]
  intro c
  have:=h.good.ptF hsf
  rw [c] at this
  simp at this
 have hmf:∀ z∈Fo.path f n.s.toNat,z<f.v.length:=fun z hz=>h.good.path_lt hz
 have e2:Fo.addE f (n.s.toNat:Int) (-a)=0:=by
  unfold Fo.addE
  rw [if_neg hpne,if_pos]
  intro i hi
  rw [Fo.pathZ_nat] at hi
  have h1:=h.good.bnd i (hmf i hi)
  have h2:=hle i hi
  refine (Sp.fits_iff _ _ h1).2 ?_
  unfold Sp.big at *
  omega
 have hup:(Fo.addS f (n.s.toNat:Int) (-a)).up=f.up:=by unfold Fo.addS;rw [e2,if_pos rfl]
 have hlen:(Fo.addS f (n.s.toNat:Int) (-a)).v.length=f.v.length:=addSF_len _ _ _
 have hval:∀ y,y<f.v.length→amt (Fo.addS f (n.s.toNat:Int) (-a)).v y=if y∈Fo.path f n.s.toNat then amt f.v y-a else amt f.v y:=fun y hy=>by
  unfold Fo.addS
  rw [e2,if_pos rfl,Fo.pathZ_nat]
  show amt (Sp.addL f.v _ _) y=_
  rw [Sp.addL_at hy]
  split <;> omega
 refine ⟨R,g2,hFW,hLe,hp,⟨⟨rLl _ _ _,fun r hr=>roomL_at _ _ (hL.lt r hr),hS2.sub,hS2.srt,hS2.gone⟩,Fo.good_addS h.good _ _,by rw [hlen,h.len],h.rlen,h.slen,fun y z hy=>?_,fun y hy hy2 hy3=>?_,by rw [hup];exact h.sink,?_,fun q hq hq2=>?_,fun y hy=>?_⟩,hup,hB⟩
 ·rw [hup] at hy
  obtain ⟨r,T,e,q1,q2,q3,q4,q5,q6⟩:=h.says hR hL hy
  have hyn:=h.lt hy
  refine ⟨r,T,e,by omega,?_⟩
  rw [hval y (by rw [h.len];exact hyn),hT r q1]
  have hiff:y∈Fo.path f n.s.toNat↔r∈R:=by
   rw [k2]
   constructor
   ·rintro (c | ⟨r2,c1,c2⟩)
    ·subst c;rw [h.sink] at hy;cases hy
    ·obtain ⟨_,⟨T2,c3⟩,_⟩:=k1 r2 c1
     rw [c2,e] at c3
     simp at c3
     rw [c3.1];exact c1
   ·intro c
    exact .inr ⟨r,c,by omega⟩
  by_cases c:r∈R
  ·rw [if_pos (hiff.2 c),if_pos c,q4]
  ·rw [if_neg (fun c2=>c (hiff.1 c2)),if_neg c,q4]
 ·rw [hup] at hy2
  have hnp:y ∉ Fo.path f n.s.toNat:=fun c=>by
   rcases (k2 y).1 c with c | ⟨r,c1,c2⟩
   ·exact hy3 c
   ·obtain ⟨_,_,⟨z,c3⟩,_⟩:=k1 r c1
    rw [c2,hy2] at c3;cases c3
  rw [hval y (by rw [h.len];exact hy),if_neg hnp]
  exact h.top y hy hy2 hy3
 ·rw [hval _ (by rw [h.len];exact htn),if_pos ((k2 _).2 (.inl rfl))]
  obtain ⟨r,hr,_⟩:=hLe.one
  have h1:=h.snk
  have h2:tot n.l TL g2+a≤tot n.l TL g:=sum_drop (fun r hr=>hB.dec r hr) (k1 r hr).1 (by rw [hT r (k1 r hr).1,if_pos hr];omega)
  omega
 ·rw [hup] at hq2
  have hnR:q ∉ R:=fun c=>by
   obtain ⟨_,⟨T,c1⟩,⟨u2,c2⟩,_⟩:=k1 q c
   rcases hq2 with c3 | c3
   ·rw [c3] at c2;cases c2
   ·exact c3 T c1
  rw [h.rl q hq hq2,hT q hq,if_neg hnR]
 ·obtain ⟨d1,d2⟩:=h.dead y hy
  exact ⟨d1,fun R2 hW2=>d2 R2 (wlk_less hB.dec hW2)⟩
end
end Ne
end Go.Proofs.YtoadkckceladgaaGreat
