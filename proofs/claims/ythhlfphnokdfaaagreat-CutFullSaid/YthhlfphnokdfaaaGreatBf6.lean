/-
  Mfm, Mcp, Ctp, Ctq, Ctr, Add, Chk
-/
import Derived.Test.YthhlfphnokdfaaaGreatBf5
import Derived.Test.YthhlfphnokdfaaaGreatRows
import Derived.WalkKit
import Derived.ProofKit
import Derived.OpenShut
import Derived.BigQuiet
import Derived.Deep.QuietTactic
import Derived.Lib.Hide
import Derived.Lib.Mul64
import Derived.Lib.BitFns
import Derived.Lib.Strings
import Derived.Lib.Slices
import Derived.Lib.Small
import Derived.Lib.Walk
import Derived.Laws.Bits64b
import Derived.Test.YthhlfphnokdfaaaGreatBf3
set_option linter.unusedVariables false
set_option linter.unusedSimpArgs false
set_option maxRecDepth 100000
set_option maxHeartbeats 4000000
namespace Go.Proofs.YthhlfphnokdfaaaGreat
namespace Ne
theorem excC_plusM (c d:Arc→Int) (l:List Arc) (f:List Int):excC (fun a=>c a+d a) l f=excC c l f+excC d l f:=by
 unfold excC
 rw [← sumTo_add]
 exact sumTo_congr fun i _=>Int.add_mul _ _ _
theorem excC_zero (l:List Arc) (f:List Int):excC (fun _=>0) l f=0:=sumTo_zero fun i _=>Int.zero_mul _
def cutA (P:Int→Bool) (a:Arc):Int:=(if P a.to=true then 1 else 0)-(if P a.fr=true then 1 else 0)
def cutK (P:Int→Bool) (k:Nat) (a:Arc):Int:=(if P a.to=true∧0≤a.to∧a.to<(k:Int) then 1 else 0)-(if P a.fr=true∧0≤a.fr∧a.fr<(k:Int) then 1 else 0)
def nodP (l:List Arc) (f:List Int) (P:Int→Bool) (k:Nat):Int:=sumTo (fun v=>if P (v:Int)=true then exc l f (v:Int) else 0) k
theorem nodP_eq (l:List Arc) (f:List Int) (P:Int→Bool):∀ k,nodP l f P k=excC (cutK P k) l f
 | 0=>by
  have e:cutK P 0=fun _=>0:=by
   funext a
   unfold cutK
   rw [if_neg (by omega),if_neg (by omega)];rfl
  rw [e,excC_zero];rfl
 | k+1=>by
  have h:nodP l f P (k+1)=nodP l f P k+if P (k:Int)=true then exc l f (k:Int) else 0:=rfl
  rw [h,nodP_eq l f P k]
  by_cases c:P (k:Int)=true
  ·rw [if_pos c,exc_eq,← excC_plusM]
   congr 1
   funext a
   unfold cutK dl
   have h1:∀ y:Int,((if P y=true∧0≤y∧y<(k:Int) then (1:Int) else 0)+if y=(k:Int) then 1 else 0)=if P y=true∧0≤y∧y<((k+1:Nat):Int) then 1 else 0:=fun y=>by
    by_cases e:y=(k:Int)
    ·subst e
     rw [if_neg (by omega),if_pos rfl,if_pos ⟨c,by omega,by omega⟩];rfl
    ·rw [if_neg e]
     by_cases e2:P y=true∧0≤y∧y<(k:Int)
     ·rw [if_pos e2,if_pos ⟨e2.1,e2.2.1,by omega⟩];rfl
     ·rw [if_neg e2,if_neg (fun h=>e2 ⟨h.1,h.2.1,by have:=h.2.2;omega⟩)];rfl
   have:=h1 a.to
   have:=h1 a.fr
   omega
  ·rw [if_neg c,Int.add_zero]
   congr 1
   funext a
   unfold cutK
   have h1:∀ y:Int,(if P y=true∧0≤y∧y<(k:Int) then (1:Int) else 0)=if P y=true∧0≤y∧y<((k+1:Nat):Int) then 1 else 0:=fun y=>by
    by_cases e2:P y=true∧0≤y∧y<(k:Int)
    ·rw [if_pos e2,if_pos ⟨e2.1,e2.2.1,by omega⟩]
    ·rw [if_neg e2,if_neg (fun h=>by
      by_cases e:y=(k:Int)
      ·rw [e] at h;exact c h.1
      ·exact e2 ⟨h.1,h.2.1,by have:=h.2.2;omega⟩)]
   rw [h1,h1]
theorem flow_cut {n:Net} (hR:Right n) {f:List Int} (hF:Flow n f) {P:Int→Bool} (hs:P n.s=false) (ht:P n.t=true):exc n.l f n.t=excC (cutA P) n.l f:=by
 have h1:=nodP_eq n.l f P (n.n.toNat+1)
 have ht0:=hR.t0
 have ht1:=hR.t1
 have h2:nodP n.l f P (n.n.toNat+1)=exc n.l f n.t:=by
  have e:=sumTo_one (g:=fun _=>0) (j:=n.t.toNat) (exc n.l f n.t) (k:=n.n.toNat+1) (by omega)
  rw [sumTo_zero fun i _=>rfl,Int.zero_add] at e
  rw [← e]
  refine sumTo_congr fun v hv=>?_
  by_cases c:v=n.t.toNat
  ·subst c
   rw [if_pos rfl,show ((n.t.toNat:Nat):Int)=n.t by omega,if_pos ht]
  ·rw [if_neg c]
   split
   ·rename_i hp
    refine hF.calm _ (fun e=>?_) (fun e=>c (by omega))
    rw [e,hs] at hp;cases hp
   ·rfl
 rw [← h2,h1]
 refine sumTo_congr fun i hi=>?_
 congr 1
 have a1:=hR.fr0 i hi;have a2:=hR.fr1 i hi;have a3:=hR.to0 i hi;have a4:=hR.to1 i hi
 unfold cutK cutA
 by_cases c1:P (arcAt n.l i).to=true <;> by_cases c2:P (arcAt n.l i).fr=true
 ·rw [if_pos c1,if_pos c2,if_pos ⟨c1,by omega,by omega⟩,if_pos ⟨c2,by omega,by omega⟩]
 ·rw [if_pos c1,if_neg c2,if_pos ⟨c1,by omega,by omega⟩,if_neg (fun h=>c2 h.1)]
 ·rw [if_neg c1,if_pos c2,if_neg (fun h=>c1 h.1),if_pos ⟨c2,by omega,by omega⟩]
 ·rw [if_neg c1,if_neg c2,if_neg (fun h=>c1 h.1),if_neg (fun h=>c2 h.1)]
end Ne
namespace Ne
def capT (P:Int→Bool) (a:Arc):Int:=if P a.fr=false∧P a.to=true then a.cap else 0
def capP (l:List Arc) (P:Int→Bool):Int:=(l.map (capT P)).sum
theorem sum_sumTo (g:Arc→Int):∀ l:List Arc,(l.map g).sum=sumTo (fun i=>g (arcAt l i)) l.length
 | []=>rfl
 | a :: l=>by
  rw [List.map_cons,List.sum_cons,sum_sumTo g l,List.length_cons,sumTo_front]
  rfl
theorem capP_eq (l:List Arc) (P:Int→Bool):capP l P=sumTo (fun i=>capT P (arcAt l i)) l.length:=sum_sumTo _ l
theorem flow_capP {n:Net} (hR:Right n) {f:List Int} (hF:Flow n f) {P:Int→Bool} (hs:P n.s=false) (ht:P n.t=true):exc n.l f n.t≤capP n.l P:=by
 rw [flow_cut hR hF hs ht,capP_eq]
 refine sumTo_le fun i hi=>?_
 obtain ⟨w1,w2⟩:=hF.wi i hi
 unfold cutA capT
 by_cases c1:P (arcAt n.l i).to=true <;> by_cases c2:P (arcAt n.l i).fr=true
 ·simp [c1,c2]
 ·simp [c1,c2];omega
 ·simp [c1,c2];omega
 ·simp [c1,c2]
def Top (n:Net) (v:Int):Prop:=∃ g L,Flow n g∧IsLev n g 1 L∧amt L n.t.toNat<0∧v=exc n.l g n.t
end Ne
namespace Ne
theorem sumTo_tight {g h:Nat→Int} (k:Nat):(∀ i,i<k→g i≤h i)→sumTo g k=sumTo h k→∀ i,i<k→g i=h i:=by
 induction k with
 | zero=>intro _ _ i hi;omega
 | succ k ih =>
  intro hle he i hi
  have h1:sumTo g k≤sumTo h k:=sumTo_le fun i hi=>hle i (by omega)
  have h2:=hle k (by omega)
  have h3:sumTo g k+g k=sumTo h k+h k:=he
  by_cases c:i=k
  ·subst c;omega
  ·exact ih (fun i hi=>hle i (by omega)) (by omega) i (by omega)
def Shut (l:List Arc) (f:List Int) (P:Int→Bool):Prop:=∀ r,r<2*l.length→1≤roomN l f r→P (trF l r)=false→P (trT l r)=false
theorem shut_arcs {l:List Arc} {f:List Int} (hw:wi l f) {P:Int→Bool}:Shut l f P↔∀ i,i<l.length→cutA P (arcAt l i)*amt f i=capT P (arcAt l i):=by
 constructor
 ·intro h i hi
  obtain ⟨w1,w2⟩:=hw i hi
  have e1:=h (2*i) (by omega)
  have e2:=h (2*i+1) (by omega)
  rw [trF_even,trT_even,room_even] at e1
  rw [trF_odd,trT_odd,room_odd] at e2
  unfold cutA capT
  cases c1:P (arcAt l i).fr <;> cases c2:P (arcAt l i).to
  ·simp
  ·have:¬ 1≤(arcAt l i).cap-amt f i:=fun e=>by have:=e1 e c1;rw [c2] at this;cases this
   simp;omega
  ·have:¬ 1≤amt f i:=fun e=>by have:=e2 e c2;rw [c1] at this;cases this
   simp;omega
  ·simp
 ·intro h r hr h1 h2
  have h3:=h (r / 2) (by omega)
  obtain ⟨w1,w2⟩:=hw (r / 2) (by omega)
  unfold cutA capT at h3
  unfold roomN at h1
  unfold trF at h2
  unfold trT
  by_cases c:r % 2=1
  ·rw [if_pos c] at h1 h2 ⊢
   cases c1:P (arcAt l (r / 2)).fr
   ·rfl
   ·rw [h2,c1] at h3;simp at h3;omega
  ·rw [if_neg c] at h1 h2 ⊢
   cases c1:P (arcAt l (r / 2)).to
   ·rfl
   ·rw [h2,c1] at h3;simp at h3;omega
theorem cut_shut {n:Net} (hR:Right n) {f:List Int} (hF:Flow n f) {P:Int→Bool} (hs:P n.s=false) (ht:P n.t=true):exc n.l f n.t=capP n.l P↔Shut n.l f P:=by
 rw [shut_arcs hF.wi,flow_cut hR hF hs ht,capP_eq]
 constructor
 ·intro h
  refine sumTo_tight _ (fun i hi=>?_) h
  obtain ⟨w1,w2⟩:=hF.wi i hi
  unfold cutA capT
  cases P (arcAt n.l i).fr <;> cases P (arcAt n.l i).to <;> simp <;> omega
 ·intro h
  exact sumTo_congr h
theorem rch_shut {n:Net} {f:List Int} {P:Int→Bool} (h:Shut n.l f P) (hs:P n.s=false) {v:Int} (hv:Rch n f 1 v):P v=false:=by
 induction hv with
 | base=>exact hs
 | step hr hx _ ih=>exact h _ hr hx ih
theorem shut_turn {l:List Arc} {f:List Int} {P:Int→Bool}:Shut (l.map turnA) f (fun v=>!P v)↔Shut l f P:=by
 constructor
 ·intro h r hr h1 h2
  obtain ⟨e1,e2,e3⟩:=tr_turn (f:=f) hr
  have:=h r (by simpa using hr) (by rw [e3];exact h1)
  rw [e1,e2] at this
  cases c:P (trT l r)
  ·rfl
  ·have:=this (by simp [c]);simp [h2] at this
 ·intro h r hr h1 h2
  have hr':r<2*l.length:=by simpa using hr
  obtain ⟨e1,e2,e3⟩:=tr_turn (f:=f) hr'
  rw [e3] at h1
  rw [e1] at h2
  rw [e2]
  cases c:P (trF l r)
  ·have:=h r hr' h1 c;simp [this] at h2
  ·simp [c]
theorem back_shut {n:Net} {f:List Int} {P:Int→Bool} (h:Shut n.l f P) (ht:P n.t=true) {v:Int} (hv:Rch (turnN n) f 1 v):P v=true:=by
 have:=rch_shut (n:=turnN n) (P:=fun v=>!P v) (shut_turn.2 h) (by show (!P n.t)=false;rw [ht];rfl) hv
 simpa using this
theorem reach_shut {n:Net} (hR:Right n) {f:List Int} {M:List Bool} (h:IsReach n f 1 M):Shut n.l f fun v=>!(M.getD v.toNat false):=fun r hr h1 h2=>by
 have:=h.closed r hr h1 (by simpa using h2)
 simpa using this
theorem back_turned {n:Net} (hR2:Right (turnN n)) {f:List Int} {B:List Bool} (h:IsReach (turnN n) f 1 B):Shut n.l f fun v=>B.getD v.toNat false:=by
 have:=reach_shut hR2 h
 refine shut_turn.1 ?_
 show Shut (n.l.map turnA) f fun v=>!(B.getD v.toNat false)
 exact this
structure CutF (n:Net) (f:List Int) (M B:List Bool):Prop where
 mt:M.getD n.t.toNat false=false
 ms:M.getD n.s.toNat false=true
 bs:B.getD n.s.toNat false=false
 bt:B.getD n.t.toNat false=true
 first:exc n.l f n.t=capP n.l fun v=>!(M.getD v.toNat false)
 last:exc n.l f n.t=capP n.l fun v=>B.getD v.toNat false
 apart:∀ v:Nat,M.getD v false=true→B.getD v false=false
 mid:∀ P:Int→Bool,P n.s=false→P n.t=true→capP n.l P=exc n.l f n.t→∀ v:Nat,(M.getD v false=true→P (v:Int)=false)∧(B.getD v false=true→P (v:Int)=true)
theorem cutF {n:Net} (hR:Right n) (hR2:Right (turnN n)) {f:List Int} (hF:Flow n f) {M B:List Bool} (hM:IsReach n f 1 M) (hB:IsReach (turnN n) f 1 B) (ht:M.getD n.t.toNat false=false):CutF n f M B:=by
 have hsh:=reach_shut hR hM
 have hb:∀ v:Nat,B.getD v false=true→M.getD v false=false:=fun v hv=>by
  have:=back_shut hsh (by simpa using ht) (hB.sound v hv)
  simpa using this
 have hbs:B.getD n.s.toNat false=false:=by
  cases c:B.getD n.s.toNat false
  ·rfl
  ·have:=hb _ c;rw [hM.at_s] at this;cases this
 have hbt:B.getD n.t.toNat false=true:=hB.at_s
 refine ⟨ht,hM.at_s,hbs,hbt,?_,?_,fun v hv=>?_,fun P p1 p2 p3 v=>?_⟩
 ·exact (cut_shut hR hF (P:=fun v=>!(M.getD v.toNat false)) (by show (!_)=false;rw [hM.at_s];rfl) (by show (!_)=true;rw [ht];rfl)).2 hsh
 ·exact (cut_shut hR hF (P:=fun v=>B.getD v.toNat false) hbs hbt).2 (back_turned hR2 hB)
 ·cases c:B.getD v false
  ·rfl
  ·have:=hb v c;rw [hv] at this;cases this
 ·have hsp:=(cut_shut hR hF p1 p2).1 p3.symm
  exact ⟨fun hv=>rch_shut hsp p1 (hM.sound v hv),fun hv=>back_shut hsp p2 (hB.sound v hv)⟩
end Ne
namespace Ne
def hasL (l:List Int) (v:Int):Bool:=decide (v∈l)
def Rises (n:Int) (l:List Int):Prop:=(∀ a∈l,1≤a∧a≤n)∧l.Pairwise (· < ·)
instance (n:Int) (l:List Int):Decidable (Rises n l):=inferInstanceAs (Decidable (_∧_))
def nodesTo (p:Nat→Bool):Nat→List Int
 | 0=>[]
 | k+1=>nodesTo p k ++ if p (k+1) then [((k+1:Nat):Int)] else []
theorem nodes_mem {p:Nat→Bool} {v:Int}:∀ {k:Nat},v∈nodesTo p k↔1≤v∧v≤k∧p v.toNat=true
 | 0=>by simp only [nodesTo,List.not_mem_nil,false_iff];omega
 | k+1=>by
  rw [nodesTo,List.mem_append,nodes_mem (k:=k)]
  by_cases c:p (k+1)=true
  ·rw [if_pos c,List.mem_singleton]
   constructor
   ·rintro (⟨h1,h2,h3⟩ | rfl)
    ·exact ⟨h1,by omega,h3⟩
    ·exact ⟨by omega,by omega,by rw [Int.toNat_natCast];exact c⟩
   ·rintro ⟨h1,h2,h3⟩
    by_cases e:v≤k
    ·exact .inl ⟨h1,e,h3⟩
    ·exact .inr (by omega)
  ·rw [if_neg c]
   simp only [List.not_mem_nil,or_false]
   constructor
   ·rintro ⟨h1,h2,h3⟩;exact ⟨h1,by omega,h3⟩
   ·rintro ⟨h1,h2,h3⟩
    refine ⟨h1,?_,h3⟩
    by_cases e:v≤k
    ·exact e
    ·rw [show v.toNat=k+1 by omega] at h3;exact absurd h3 c
theorem nodes_has {p:Nat→Bool} {k:Nat} {v:Int} (h:1≤v) (h2:v≤k):hasL (nodesTo p k) v=p v.toNat:=by
 unfold hasL
 cases c:p v.toNat
 ·exact decide_eq_false fun e=>by have:=(nodes_mem.1 e).2.2;rw [c] at this;cases this
 ·exact decide_eq_true (nodes_mem.2 ⟨h,h2,c⟩)
theorem nodes_rise (p:Nat→Bool):∀ k:Nat,Rises k (nodesTo p k)
 | 0=>⟨fun a h=>by simp [nodesTo] at h,by simp [nodesTo]⟩
 | k+1=>by
  have ih:=nodes_rise p k
  refine ⟨fun a h=>?_,?_⟩
  ·have:=nodes_mem.1 h;exact ⟨this.1,this.2.1⟩
  ·rw [nodesTo,List.pairwise_append]
   refine ⟨ih.2,by split <;> simp,fun a ha b hb=>?_⟩
   have h1:=ih.1 a ha
   split at hb
   ·rw [List.mem_singleton] at hb;subst hb;omega
   ·simp at hb
theorem nodes_len (p:Nat→Bool):∀ k:Nat,(nodesTo p k).length≤k
 | 0=>by simp [nodesTo]
 | k+1=>by have:=nodes_len p k;rw [nodesTo,List.length_append];split <;> simp <;> omega
def overTo (l:List Arc) (S:List Int):Nat→List Int
 | 0=>[]
 | j+1=>overTo l S j ++ if hasL S (arcAt l j).fr=true∧hasL S (arcAt l j).to=false then [(j:Int)] else []
def cutE (n:Net) (S:List Int):Int:=if checkN n≠0 then checkN n else if ¬ Rises n.n S then 1 else if hasL S n.s=false∨hasL S n.t=true then 9 else 0
def cutC (l:List Arc) (S:List Int):Int:=capP l fun v=>!(hasL S v)
theorem over_mem {l:List Arc} {S:List Int} {i:Int}:∀ {j:Nat},i∈overTo l S j↔0≤i∧i<j∧hasL S (arcAt l i.toNat).fr=true∧hasL S (arcAt l i.toNat).to=false
 | 0=>by simp only [overTo,List.not_mem_nil,false_iff];omega
 | j+1=>by
  rw [overTo,List.mem_append,over_mem (j:=j)]
  by_cases c:hasL S (arcAt l j).fr=true∧hasL S (arcAt l j).to=false
  ·rw [if_pos c,List.mem_singleton]
   constructor
   ·rintro (⟨h1,h2,h3⟩ | rfl)
    ·exact ⟨h1,by omega,h3⟩
    ·exact ⟨by omega,by omega,by rw [Int.toNat_natCast];exact c⟩
   ·rintro ⟨h1,h2,h3⟩
    by_cases e:i<j
    ·exact .inl ⟨h1,e,h3⟩
    ·exact .inr (by omega)
  ·rw [if_neg c]
   simp only [List.not_mem_nil,or_false]
   constructor
   ·rintro ⟨h1,h2,h3⟩;exact ⟨h1,by omega,h3⟩
   ·rintro ⟨h1,h2,h3⟩
    refine ⟨h1,?_,h3⟩
    by_cases e:i<j
    ·exact e
    ·rw [show i.toNat=j by omega] at h3;exact absurd h3 c
theorem over_len (l:List Arc) (S:List Int):∀ j:Nat,(overTo l S j).length≤j
 | 0=>by simp [overTo]
 | j+1=>by have:=over_len l S j;rw [overTo,List.length_append];split <;> simp <;> omega
theorem over_cap (l:List Arc) (S:List Int):∀ j:Nat,((overTo l S j).map fun i=>(arcAt l i.toNat).cap).sum=sumTo (fun i=>capT (fun v=>!(hasL S v)) (arcAt l i)) j
 | 0=>rfl
 | j+1=>by
  rw [overTo,List.map_append,List.sum_append,over_cap l S j]
  show _=sumTo _ j+_
  congr 1
  unfold capT
  simp only [Bool.not_eq_false',Bool.not_eq_true']
  split <;> simp
end Ne
namespace Ne
def lastOf (S:List Int) (j:Nat):Int:=if j=0 then 0 else amt S (j-1)
theorem lastOf_zero (S:List Int):lastOf S 0=0:=rfl
theorem lastOf_succ (S:List Int) (j:Nat):lastOf S (j+1)=amt S j:=by simp [lastOf]
theorem hasL_snoc (l:List Int) (x v:Int):hasL (l ++ [x]) v=(v == x || hasL l v):=by
 unfold hasL
 by_cases c:v=x
 ·simp [c]
 ·by_cases d:v∈l <;> simp [c,d]
theorem take_amt' {S:List Int} {j:Nat} (hj:j<S.length):S.take (j+1)=S.take j ++ [amt S j]:=take_amt hj
theorem hasL_take {S:List Int} {j:Nat} (hj:j<S.length) (v:Int):hasL (S.take (j+1)) v=(v == amt S j || hasL (S.take j) v):=by
 rw [take_amt' hj,hasL_snoc]
theorem rises_less {n:Int} {S:List Int} {j:Nat} (h:Rises n S):Rises n (S.take j) :=
 ⟨fun a ha=>h.1 a (List.mem_of_mem_take ha),h.2.sublist (List.take_sublist j S)⟩
theorem rises_zero (n:Int) (S:List Int):Rises n (S.take 0):=⟨fun a h=>by simp at h,by simp⟩
theorem rises_mem {n:Int} {S:List Int} {j:Nat} (h:Rises n (S.take j)) (hj:j≤S.length):∀ a∈S.take j,a≤lastOf S j:=by
 cases j with
 | zero=>intro a ha;simp at ha
 | succ j =>
  intro a ha
  rw [lastOf_succ]
  rw [take_amt' (by omega)] at ha h
  rcases List.mem_append.1 ha with ha | ha
  ·have:=(List.pairwise_append.1 h.2).2.2 a ha (amt S j) (by simp)
   omega
  ·simp at ha;omega
theorem rises_step {n:Int} {S:List Int} {j:Nat} (hj:j<S.length) (h:Rises n (S.take j)):Rises n (S.take (j+1))↔lastOf S j<amt S j∧amt S j≤n:=by
 constructor
 ·intro h2
  rw [take_amt' hj] at h2
  have h3:=h2.1 (amt S j) (by simp)
  refine ⟨?_,h3.2⟩
  cases j with
  | zero=>rw [lastOf_zero];omega
  | succ j =>
   rw [lastOf_succ]
   refine (List.pairwise_append.1 h2.2).2.2 _ ?_ _ (by simp)
   rw [take_amt' (by omega)];simp
 ·rintro ⟨h1,h2⟩
  have hm:=rises_mem h (Nat.le_of_lt hj)
  have hp:0≤lastOf S j:=by
   cases j with
   | zero=>rw [lastOf_zero];omega
   | succ j =>
    have:=(h.1 (amt S j) (by rw [take_amt' (by omega)];simp)).1
    rw [lastOf_succ];omega
  rw [take_amt' hj]
  refine ⟨fun a ha=>?_,List.pairwise_append.2 ⟨h.2,by simp,fun a ha b hb=>?_⟩⟩
  ·rcases List.mem_append.1 ha with ha | ha
   ·exact h.1 a ha
   ·simp at ha;omega
  ·simp at hb;have:=hm a ha;omega
theorem rises_len {n:Int} {S:List Int}:∀ {j:Nat},Rises n (S.take j)→j≤S.length→(j:Int)≤lastOf S j
 | 0,_,_=>by rw [lastOf_zero];omega
 | j+1,h,hj=>by
  have h1:Rises n (S.take j):=by
   have:=rises_less (j:=j) h
   rwa [List.take_take,show min j (j+1)=j by omega] at this
  have ih:=rises_len h1 (by omega)
  have:=((rises_step (by omega) h1).1 h).1
  rw [lastOf_succ]
  omega
theorem rises_pos {n:Int} {S:List Int} {j:Nat} (h:Rises n (S.take j)) (hj:j≤S.length):0≤lastOf S j:=by have:=rises_len h hj;omega
theorem rises_top {n:Int} {S:List Int} {j:Nat} (h:Rises n (S.take j)) (hj:j≤S.length) (hn:0≤n):lastOf S j≤n:=by
 cases j with
 | zero=>rw [lastOf_zero];exact hn
 | succ j=>rw [lastOf_succ];exact (h.1 (amt S j) (by rw [take_amt' (by omega)];simp)).2
theorem rises_not {n:Int} {S:List Int} {j:Nat} (h:¬ Rises n (S.take j)):¬ Rises n S:=fun h2=>h (rises_less h2)
theorem rises_end {n:Int} {S:List Int} {j:Nat} (h:Rises n (S.take j)) (hj:S.length≤j):Rises n S:=by rwa [List.take_of_length_le hj] at h
theorem chkF_nought (n:Net):chkF n (List.replicate n.l.length 0)=checkN n:=by
 by_cases h:checkN n=0
 ·rw [h];exact flow_chkF h (flow_nought (right_of h))
 ·unfold chkF chkA
  simp [h]
theorem cutE_net {n:Net} (S:List Int) (h:checkN n≠0):cutE n S=checkN n:=by unfold cutE;rw [if_pos h]
theorem cutE_arg {n:Net} {S:List Int} (h:checkN n=0) (h2:¬ Rises n.n S):cutE n S=1:=by unfold cutE;rw [if_neg (by simpa using h),if_pos h2]
theorem cutE_end {n:Net} {S:List Int} (h:checkN n=0) (h2:Rises n.n S) (h3:hasL S n.s=false∨hasL S n.t=true):cutE n S=9:=by
 unfold cutE;rw [if_neg (by simpa using h),if_neg (by simpa using h2),if_pos h3]
theorem cutE_fine {n:Net} {S:List Int} (h:checkN n=0) (h2:Rises n.n S) (h3:hasL S n.s=true) (h4:hasL S n.t=false):cutE n S=0:=by
 unfold cutE;rw [if_neg (by simpa using h),if_neg (by simpa using h2),if_neg (by simp [h3,h4])]
theorem cutE_ok {n:Net} {S:List Int} (h:cutE n S=0):checkN n=0∧Rises n.n S∧hasL S n.s=true∧hasL S n.t=false:=by
 by_cases h1:checkN n=0
 ·by_cases h2:Rises n.n S
  ·by_cases h3:hasL S n.s=false∨hasL S n.t=true
   ·rw [cutE_end h1 h2 h3] at h;cases h
   ·cases c:hasL S n.s
    ·exact absurd (.inl c) h3
    ·cases d:hasL S n.t
     ·exact ⟨h1,h2,rfl,rfl⟩
     ·exact absurd (.inr d) h3
  ·rw [cutE_arg h1 h2] at h;cases h
 ·rw [cutE_net S h1] at h;exact absurd h h1
def arcsV (n:Net) (S:List Int):List Int:=if cutE n S≠0 then [] else overTo n.l S n.l.length
def capV (n:Net) (S:List Int):Int:=if cutE n S≠0 then 0 else cutC n.l S
theorem arcsV_bad {n:Net} {S:List Int} (h:cutE n S≠0):arcsV n S=[]:=by unfold arcsV;rw [if_pos h]
theorem arcsV_ok {n:Net} {S:List Int} (h:cutE n S=0):arcsV n S=overTo n.l S n.l.length:=by unfold arcsV;rw [if_neg (by simpa using h)]
theorem capV_ok {n:Net} {S:List Int} (h:cutE n S=0):capV n S=cutC n.l S:=by unfold capV;rw [if_neg (by simpa using h)]
theorem arcsV_len (n:Net) (S:List Int):(arcsV n S).length≤n.l.length:=by
 unfold arcsV;split
 ·simp
 ·exact over_len _ _ _
theorem arcsV_mem {n:Net} {S:List Int} {i:Int} (h:i∈arcsV n S):0≤i∧i<n.l.length:=by
 unfold arcsV at h;split at h
 ·simp at h
 ·have:=over_mem.1 h;exact ⟨this.1,this.2.1⟩
def sumV (l:List Arc) (R:List Int) (k:Nat):Int:=((R.take k).map fun i=>(arcAt l i.toNat).cap).sum
theorem sumV_succ {l:List Arc} {R:List Int} {k:Nat} (h:k<R.length):sumV l R (k+1)=sumV l R k+(arcAt l (amt R k).toNat).cap:=by
 unfold sumV;rw [take_amt' h,List.map_append,List.sum_append];simp
theorem cutC_sum (l:List Arc) (S:List Int):cutC l S=((overTo l S l.length).map fun i=>(arcAt l i.toNat).cap).sum:=by
 rw [over_cap];unfold cutC;rw [capP_eq]
theorem capV_sum (n:Net) (S:List Int):sumV n.l (arcsV n S) (arcsV n S).length=capV n S:=by
 unfold sumV arcsV capV
 rw [List.take_length]
 split
 ·rfl
 ·exact (cutC_sum _ _).symm
theorem sumV_zero (l:List Arc) (R:List Int):sumV l R 0=0:=by simp [sumV]
theorem capP_sum {l:List Arc} (P:Int→Bool) (h:∀ i,i<l.length→0≤(arcAt l i).cap):capP l P≤capS l l.length:=by
 rw [capP_eq]
 refine sumTo_le fun i hi=>?_
 have:=h i hi
 unfold capT;split <;> omega
theorem sumV_nn {l:List Arc} {R:List Int} (h:∀ i∈R,0≤(arcAt l i.toNat).cap):∀ k:Nat,0≤sumV l R k∧sumV l R k≤sumV l R R.length:=by
 induction R with
 | nil=>intro k;simp [sumV]
 | cons a R ih =>
  intro k
  have h1:=h a List.mem_cons_self
  have ih:=fun k=>ih (fun i hi=>h i (List.mem_cons_of_mem _ hi)) k
  cases k with
  | zero=>rw [sumV_zero];have:=(ih R.length).1;simp [sumV] at this ⊢;omega
  | succ k=>have:=ih k;simp [sumV] at this ⊢;omega
theorem sumV_bd (n:Net) (S:List Int) (k:Nat):0≤sumV n.l (arcsV n S) k∧sumV n.l (arcsV n S) k≤4611686018427387903:=by
 by_cases c:cutE n S=0
 ·have hR:=right_of (cutE_ok c).1
  have h1:=sumV_nn (l:=n.l) (R:=arcsV n S) (fun i hi=>by have:=arcsV_mem hi;exact hR.cap0 _ (by omega)) k
  rw [capV_sum,capV_ok c] at h1
  have h2:=capP_sum (l:=n.l) (fun v=>!(hasL S v)) hR.cap0
  have:=hR.sum
  unfold cutC at h1
  omega
 ·rw [arcsV_bad c];simp [sumV]
end Ne
end Go.Proofs.YthhlfphnokdfaaaGreat
namespace Go.Proofs.YthhlfphnokdfaaaGreat
open Go.ChangeShapes Go.WideShapes Go.ChangeAt Go.RowKit
open Lib (hid)
namespace Num

def inB (a:Int):Bool:=decide (-9223372036854775808≤a∧a≤9223372036854775807)
def valV (x:Int):Int:=if inB x then x else 0
def valE (x:Int):Int:=if inB x then 0 else 3

theorem valV_in {x:Int} (h0:-9223372036854775808≤x) (h1:x≤9223372036854775807):valV x=x:=by
 unfold valV inB;rw [if_pos (decide_eq_true ⟨h0,h1⟩)]
theorem valE_in {x:Int} (h0:-9223372036854775808≤x) (h1:x≤9223372036854775807):valE x=0:=by
 unfold valE inB;rw [if_pos (decide_eq_true ⟨h0,h1⟩)]
theorem valV_out {x:Int} (h:x < -9223372036854775808∨9223372036854775807<x):valV x=0:=by
 unfold valV inB;rw [if_neg (by simp;omega)]
theorem valE_out {x:Int} (h:x < -9223372036854775808∨9223372036854775807<x):valE x=3:=by
 unfold valE inB;rw [if_neg (by simp;omega)]
theorem ret2 {a b c d:Int} (h1:a=c) (h2:b=d):Ending.returned (.tuple #[.int .i64 a,.int .i64 b])=.returned (.tuple #[.int .i64 c,.int .i64 d]):=by rw [h1,h2]

theorem add_any (a b:Int) (w:World) (ha:-9223372036854775808≤a) (ha':a≤9223372036854775807) (hb:-9223372036854775808≤b) (hb':b≤9223372036854775807) :
  Calls Tryz.prog 59 #[.int .i64 a,.int .i64 b] w fun e w'=>e=.returned (.tuple #[.int .i64 (valV (a+b)),.int .i64 (valE (a+b))])∧w=w':=by
 by_cases hi:-9223372036854775808≤a+b∧a+b≤9223372036854775807
 ·obtain ⟨h0,h1⟩:=hi
  by_cases c:b<0
  ·have c2:a+b<a:=by omega
   go_enter Tryz.func59,Tryz.ntmps59
   go_wp2
   go_ret2
   exact ⟨ret2 (valV_in h0 h1).symm (valE_in h0 h1).symm,rfl⟩
  ·have c2:¬ a+b<a:=by omega
   go_enter Tryz.func59,Tryz.ntmps59
   go_wp2
   go_ret2
   exact ⟨ret2 (valV_in h0 h1).symm (valE_in h0 h1).symm,rfl⟩
 ·have ho:a+b < -9223372036854775808∨9223372036854775807<a+b:=by omega
  have hw:(decide (wrap64 (a+b)<a) == decide (b<0))=false:=by unfold wrap64;simp;omega
  have e1:=valV_out ho
  have e2:=valE_out ho
  have E1:=hid e1
  have E2:=hid e2
  clear e1 e2 hi
  go_enter Tryz.func59,Tryz.ntmps59
  go_wp2
  go_ret2
  exact ⟨ret2 E1.out.symm E2.out.symm,rfl⟩

end Num
namespace Ne
theorem isnode_any (n s t v:Int) (L:Value) (w:World) :
  Calls Tryz.prog 53 #[.agg #[.int .i64 n,.int .i64 s,.int .i64 t,L],.int .i64 v] w fun e w'=>e=.returned (.bool (isNode n v))∧w.alloc (.cells #[.int .i64 n,.int .i64 s,.int .i64 t,L] 27)=w':=by
 by_cases h1:1≤v
 ·by_cases h2:v≤n
  ·have HE:=hid (show isNode n v=true by simp [isNode,h1,h2])
   go_enter Tryz.func53,Tryz.ntmps53
   go_wp2
   go_ret
   exact ⟨retB HE.out.symm,rfl⟩
  ·have HE:=hid (show isNode n v=false by simp [isNode,h1,h2])
   go_enter Tryz.func53,Tryz.ntmps53
   go_wp2
   go_ret
   exact ⟨retB HE.out.symm,rfl⟩
 ·have HE:=hid (show isNode n v=false by simp [isNode,h1])
  go_enter Tryz.func53,Tryz.ntmps53
  go_wp2
  go_ret
  exact ⟨retB HE.out.symm,rfl⟩

theorem checkarcs_any (n:Net) (ao:Option Addr) (cap:Nat) (w:World) (hr:ARow w ao n.l) (hl:n.l.length≤1000000) (hok:∀ a∈n.l,in64 a.cap) :
  Calls Tryz.prog 54 #[encN n ao cap] w fun e w'=>e=.returned (.int .i64 (checkL n.n 4611686018427387903 n.l))∧Below w.heap.size w w':=by
 obtain ⟨nn,ns,nt,l⟩:=n
 simp only at hr hl hok ⊢
 have HR:=hid hr
 have HOK:=hid hok
 clear hr hok
 have HB0:=hid ((Below.refl w.heap.size w).alloc (Nat.le_refl _) (.cells #[.int .i64 nn,.int .i64 ns,.int .i64 nt,.slice ao l.length cap] 27))
 have HN0:=hid (netBox_new w nn ns nt (.slice ao l.length cap))
 go_enter Tryz.func54,Tryz.ntmps54
 go_wp2
 go_loopw [3,11] (fun s i wr=>∃ (k:Nat) (sum:Int),s=.int .i64 sum∧i=.int .i64 k∧k≤l.length∧0≤sum∧sum≤4611686018427387903∧NetBox wr w.heap.size nn ns nt (.slice ao l.length cap)∧Below w.heap.size w wr∧Hid (checkL nn 4611686018427387903 l=checkL nn (4611686018427387903-sum) (l.drop k))) (fun _ i _=>l.length-(intOf i).toNat)
 case atStart=>exact ⟨0,0,rfl,rfl,Nat.zero_le _,by omega,by omega,HN0.out,HB0.out,hid rfl⟩
 case round =>
  obtain ⟨k,sum,rfl,rfl,hk,hs0,hs1,hbx,hbel,HC⟩:=hrel
  obtain ⟨n0,n1,n2,n3⟩:=netBox_cells hbx
  have HBX:=hid hbx
  have HB:=hid hbel
  have hwlt:w.heap.size<wr.heap.size:=netBox_lt hbx
  clear hbx hbel
  by_cases hlt:k<l.length
  ·obtain ⟨a,ha⟩:∃ a,l[k]? = some a:=⟨_,List.getElem?_eq_getElem hlt⟩
   rcases (HR.out.kept HB.out) with h | ⟨b,off,rfl,hbl,hcell⟩
   ·exfalso;rw [h] at hlt;simp at hlt
   obtain ⟨c0,c1,c2⟩:=arow_at hcell ha
   obtain ⟨hc0,hc1⟩:=HOK.out a (List.mem_of_getElem? ha)
   have HD:=hid (drop_at ha)
   obtain ⟨fr,to,ca⟩:=a
   simp only at c0 c1 c2 hc0 hc1
   clear hcell ha
   by_cases f1:isNode nn fr=true
   case neg =>
    have f1':isNode nn fr=false:=by simpa using f1
    have HE:=hid (show checkL nn 4611686018427387903 l=4 by rw [HC.out,HD.out];simp [checkL,f1'])
    clear f1
    go_wp2_with (go_at_call 53;refine (isnode_any _ _ _ _ _ _).mono ?_;rintro e w' ⟨rfl,rfl⟩)
    go_ret
    exact ⟨retI HE.out.symm,(HB.out.alloc (by omega) _).alloc (by simp;omega) _⟩
   by_cases f2:isNode nn to=true
   case neg =>
    have f2':isNode nn to=false:=by simpa using f2
    have HE:=hid (show checkL nn 4611686018427387903 l=4 by rw [HC.out,HD.out];simp [checkL,f2'])
    clear f2
    go_wp2_with (go_at_call 53;refine (isnode_any _ _ _ _ _ _).mono ?_;rintro e w' ⟨rfl,rfl⟩)
    go_ret
    exact ⟨retI HE.out.symm,((HB.out.alloc (by omega) _).alloc (by simp;omega) _).alloc (by simp;omega) _⟩
   have HI:=hid (show (isNode nn fr && isNode nn to)=true by simp [f1,f2])
   by_cases f3:ca<0
   ·have HE:=hid (show checkL nn 4611686018427387903 l=3 by rw [HC.out,HD.out];simp [checkL,f1,f2,f3])
    go_wp2_with (go_at_call 53;refine (isnode_any _ _ _ _ _ _).mono ?_;rintro e w' ⟨rfl,rfl⟩)
    go_ret
    exact ⟨retI HE.out.symm,((HB.out.alloc (by omega) _).alloc (by simp;omega) _).alloc (by simp;omega) _⟩
   have c4:=fun w'=>Num.add_any sum ca w' (by omega) (by omega) (by omega) (by omega)
   by_cases f4:sum+ca≤4611686018427387903
   ·rw [Num.valV_in (by omega) (by omega),Num.valE_in (by omega) (by omega)] at c4
    have C4:=hid c4
    have HE:=hid (show checkL nn 4611686018427387903 l=checkL nn (4611686018427387903-(sum+ca)) (l.drop (k+1)) by
     rw [HC.out,HD.out];simp [checkL,f1,f2,f3];rw [if_neg (by omega),show 4611686018427387903-sum-ca=4611686018427387903-(sum+ca) by omega])
    clear c4
    go_wp2_with (first
     | (go_at_call 53;refine (isnode_any _ _ _ _ _ _).mono ?_;rintro e w' ⟨rfl,rfl⟩)
     | (go_at_call 59;refine (C4.out _).mono ?_;rintro e w' ⟨rfl,rfl⟩))
    go_roundw
    case rel=>exact ⟨k+1,sum+ca,rfl,by go_num,by omega,by omega,by omega,netBox_alloc (netBox_alloc (netBox_alloc HBX.out _) _) _,((HB.out.alloc (by omega) _).alloc (by simp;omega) _).alloc (by simp;omega) _,HE⟩
    case measure=>simp [intOf];omega
   ·have HE:=hid (show checkL nn 4611686018427387903 l=7 by
     rw [HC.out,HD.out];simp [checkL,f1,f2,f3];intro h;omega)
    by_cases f5:sum+ca≤9223372036854775807
    ·rw [Num.valV_in (by omega) f5,Num.valE_in (by omega) f5] at c4
     have C4:=hid c4
     clear c4
     go_wp2_with (first
      | (go_at_call 53;refine (isnode_any _ _ _ _ _ _).mono ?_;rintro e w' ⟨rfl,rfl⟩)
      | (go_at_call 59;refine (C4.out _).mono ?_;rintro e w' ⟨rfl,rfl⟩))
     go_ret
     exact ⟨retI HE.out.symm,((HB.out.alloc (by omega) _).alloc (by simp;omega) _).alloc (by simp;omega) _⟩
    ·rw [Num.valV_out (by omega),Num.valE_out (by omega)] at c4
     have C4:=hid c4
     clear c4
     go_wp2_with (first
      | (go_at_call 53;refine (isnode_any _ _ _ _ _ _).mono ?_;rintro e w' ⟨rfl,rfl⟩)
      | (go_at_call 59;refine (C4.out _).mono ?_;rintro e w' ⟨rfl,rfl⟩))
     go_ret
     exact ⟨retI HE.out.symm,((HB.out.alloc (by omega) _).alloc (by simp;omega) _).alloc (by simp;omega) _⟩
  ·have ek:k=l.length:=by omega
   subst ek
   have HE:=hid (show checkL nn 4611686018427387903 l=0 by rw [HC.out,List.drop_length];rfl)
   go_wp2
   go_ret
   exact ⟨retI HE.out.symm,HB.out⟩

theorem check_any (n:Net) (ao:Option Addr) (cap:Nat) (w:World) (hr:ARow w ao n.l) (hl:n.l.length≤1000000) (hok:∀ a∈n.l,in64 a.cap) :
  Calls Tryz.prog 47 #[encN n ao cap] w fun e w'=>e=.returned (.int .i64 (checkN n))∧Below w.heap.size w w':=by
 obtain ⟨nn,ns,nt,l⟩:=n
 simp only at hr hl hok ⊢
 have HB0:=hid ((Below.refl w.heap.size w).alloc (Nat.le_refl _) (.cells #[.int .i64 nn,.int .i64 ns,.int .i64 nt,.slice ao l.length cap] 27))
 by_cases g1:nn<2
 ·have HE:=hid (show checkN ⟨nn,ns,nt,l⟩=3 by unfold checkN;rw [if_pos (.inl g1)])
  go_enter Tryz.func47,Tryz.ntmps47
  go_wp2
  go_ret
  exact ⟨retI HE.out.symm,HB0.out⟩
 by_cases g2:500<nn
 ·have HE:=hid (show checkN ⟨nn,ns,nt,l⟩=3 by unfold checkN;rw [if_pos (.inr g2)])
  go_enter Tryz.func47,Tryz.ntmps47
  go_wp2
  go_ret
  exact ⟨retI HE.out.symm,HB0.out⟩
 by_cases f1:isNode nn ns=true
 case neg =>
  have f1':isNode nn ns=false:=by simpa using f1
  have HE:=hid (show checkN ⟨nn,ns,nt,l⟩=4 by unfold checkN;rw [if_neg (show ¬ (nn<2∨500<nn) by omega)];simp [f1'])
  clear f1
  go_enter Tryz.func47,Tryz.ntmps47
  go_wp2_with (go_at_call 53;refine (isnode_any _ _ _ _ _ _).mono ?_;rintro e w' ⟨rfl,rfl⟩)
  go_ret
  exact ⟨retI HE.out.symm,HB0.out.alloc (by simp) _⟩
 by_cases f2:isNode nn nt=true
 case neg =>
  have f2':isNode nn nt=false:=by simpa using f2
  have HE:=hid (show checkN ⟨nn,ns,nt,l⟩=4 by unfold checkN;rw [if_neg (show ¬ (nn<2∨500<nn) by omega)];simp [f2'])
  clear f2
  go_enter Tryz.func47,Tryz.ntmps47
  go_wp2_with (go_at_call 53;refine (isnode_any _ _ _ _ _ _).mono ?_;rintro e w' ⟨rfl,rfl⟩)
  go_ret
  exact ⟨retI HE.out.symm,(HB0.out.alloc (by simp) _).alloc (by simp;omega) _⟩
 have HI:=hid (show (isNode nn ns && isNode nn nt)=true by simp [f1,f2])
 by_cases g4:ns=nt
 ·have HE:=hid (show checkN ⟨nn,ns,nt,l⟩=5 by unfold checkN;rw [if_neg (show ¬ (nn<2∨500<nn) by omega),if_pos HI.out,if_pos g4])
  have g4':(ns == nt)=true:=by simp [g4]
  clear g4
  go_enter Tryz.func47,Tryz.ntmps47
  go_wp2_with (go_at_call 53;refine (isnode_any _ _ _ _ _ _).mono ?_;rintro e w' ⟨rfl,rfl⟩)
  go_ret
  exact ⟨retI HE.out.symm,(HB0.out.alloc (by simp) _).alloc (by simp;omega) _⟩
 have g4':(ns == nt)=false:=by simp [g4]
 by_cases g5:2000<l.length
 ·have HE:=hid (show checkN ⟨nn,ns,nt,l⟩=6 by unfold checkN;rw [if_neg (show ¬ (nn<2∨500<nn) by omega),if_pos HI.out,if_neg g4,if_pos g5])
  have g5':(2000:Int)<(l.length:Int):=by omega
  clear g4
  go_enter Tryz.func47,Tryz.ntmps47
  go_wp2_with (go_at_call 53;refine (isnode_any _ _ _ _ _ _).mono ?_;rintro e w' ⟨rfl,rfl⟩)
  go_ret
  exact ⟨retI HE.out.symm,(HB0.out.alloc (by simp) _).alloc (by simp;omega) _⟩
 have HE:=hid (show checkN ⟨nn,ns,nt,l⟩=checkL nn 4611686018427387903 l by unfold checkN;rw [if_neg (show ¬ (nn<2∨500<nn) by omega),if_pos HI.out,if_neg g4,if_neg g5])
 have HC:=hid (fun w' (h:ARow w' ao l)=>checkarcs_any ⟨nn,ns,nt,l⟩ ao cap w' h hl hok)
 have HR:=hid hr
 have g5':¬ (2000:Int)<(l.length:Int):=by omega
 clear g4 hr hok
 go_enter Tryz.func47,Tryz.ntmps47
 go_wp2_with (go_at_call 53;refine (isnode_any _ _ _ _ _ _).mono ?_;rintro e w' ⟨rfl,rfl⟩)
 have HB1:=hid ((HB0.out.alloc (by simp) (.cells #[.int .i64 nn,.int .i64 ns,.int .i64 nt,.slice ao l.length cap] 27)).alloc (by simp;omega) (.cells #[.int .i64 nn,.int .i64 ns,.int .i64 nt,.slice ao l.length cap] 27))
 refine (HC.out _ (HR.out.kept HB1.out)).mono ?_
 rintro e w' ⟨rfl,hb⟩
 have HB2:=hid (HB1.out.trans (hb.mono (by simp;omega)))
 clear hb
 go_wp2
 go_ret
 exact ⟨retI HE.out.symm,HB2.out⟩
end Ne
end Go.Proofs.YthhlfphnokdfaaaGreat
