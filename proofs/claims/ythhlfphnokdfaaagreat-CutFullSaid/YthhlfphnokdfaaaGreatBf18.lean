/-
  Trr
-/
import Derived.Test.YthhlfphnokdfaaaGreatBf17
set_option linter.unusedVariables false
set_option linter.unusedSimpArgs false
set_option maxRecDepth 100000
set_option maxHeartbeats 4000000
namespace Go.Proofs.YthhlfphnokdfaaaGreat
namespace Ne
open Fo (Ft)
def sumN (h:Nat→Nat):Nat→Nat
 | 0=>0
 | k+1=>sumN h k+h k
theorem sumN_le {h h2:Nat→Nat}:∀ {m:Nat},(∀ j,j<m→h2 j≤h j)→sumN h2 m≤sumN h m
 | 0,_=>Nat.le_refl _
 | m+1,hh=>by
  have h1:=sumN_le (m:=m) fun j hj=>hh j (by omega)
  have h2:=hh m (by omega)
  simp only [sumN]
  omega
theorem sumN_upd {h h2:Nat→Nat} {v k:Nat}:∀ {m:Nat},v<m→(∀ j,j<m→j≠v→h2 j≤h j)→h2 v+k≤h v→sumN h2 m+k≤sumN h m
 | 0,hv,_,_=>by omega
 | m+1,hv,ho,hk=>by
  simp only [sumN]
  by_cases c:v=m
  ·subst c
   have h1:=sumN_le (m:=v) (h:=h) (h2:=h2) fun j hj=>ho j (by omega) (by omega)
   omega
  ·have h1:=sumN_upd (m:=m) (by omega) (fun j hj hjv=>ho j (by omega) hjv) hk
   have h2:=ho m (by omega) (Ne.symm c)
   omega
theorem sumN_add (h h2:Nat→Nat):∀ m,sumN (fun j=>h j+h2 j) m=sumN h m+sumN h2 m
 | 0=>rfl
 | m+1=>by simp only [sumN];rw [sumN_add];omega
theorem sumN_const (c:Nat):∀ m,sumN (fun _=>c) m=c*m
 | 0=>by simp [sumN]
 | m+1=>by simp only [sumN];rw [sumN_const,Nat.mul_succ]
theorem sumN_mul (c:Nat) (h:Nat→Nat):∀ m,sumN (fun j=>c*h j) m=c*sumN h m
 | 0=>by simp [sumN]
 | m+1=>by simp only [sumN];rw [sumN_mul,Nat.mul_add]
theorem sumN_hit (v:Nat):∀ m,sumN (fun j=>if v=j then 1 else 0) m≤1
 | 0=>by simp [sumN]
 | m+1=>by
  simp only [sumN]
  by_cases c:v=m
  ·rw [if_pos c]
   have:sumN (fun j=>if v=j then 1 else 0) m=sumN (fun _=>0) m:=by
    have h1:=sumN_le (m:=m) (h:=fun _=>0) (h2:=fun j=>if v=j then 1 else 0) fun j hj=>by rw [if_neg (by omega)];exact Nat.le_refl _
    have h2:=sumN_const 0 m
    omega
   have h2:=sumN_const 0 m
   omega
  ·rw [if_neg c];exact sumN_hit v m
theorem sumN_keys (key:Nat→Nat) (m:Nat):∀ TL:List Nat,sumN (fun v=>(TL.filter fun r=>decide (key r=v)).length) m≤TL.length
 | []=>by simp [sumN_const]
 | r :: TL=>by
  have h1:=sumN_keys key m TL
  have h2:=sumN_hit (key r) m
  have e:sumN (fun v=>((r :: TL).filter fun r=>decide (key r=v)).length) m=sumN (fun v=>(if key r=v then 1 else 0)+(TL.filter fun r=>decide (key r=v)).length) m:=by
   congr 1
   funext v
   by_cases c:key r=v
   ·rw [if_pos c,List.filter_cons_of_pos (by simpa using c),List.length_cons];omega
   ·rw [if_neg c,List.filter_cons_of_neg (by simpa using c)];omega
  rw [e,sumN_add,List.length_cons]
  omega
def alive (n:Net) (g:List Int) (x:Int) (S:List Bool) (q:Nat):Bool:=decide (x≤roomN n.l g q) && !S.getD (trT n.l q).toNat false
def pv (n:Net) (g:List Int) (x:Int) (U:Nat→List Nat) (f:Ft) (S:List Bool) (A:Nat→Nat) (v:Nat):Nat :=
 (match f.up v with | none=>9*(U v).countP (alive n g x S) | some _=>9*(U v).tail.countP (alive n g x S)+6)+(U v).length+if S.getD v false=true then 0 else 1+A v
def psi (n:Net) (TL:List Nat) (g:List Int) (x:Int) (U:Nat→List Nat) (f:Ft) (S:List Bool) (A:Nat→Nat):Nat:=sumN (pv n g x U f S A) (n.n.toNat+1)+4*left n.l TL x g
section
variable {n:Net} {TL:List Nat} {g g2:List Int} {x:Int} {U:Nat→List Nat} {f f2:Ft} {RL:List Int} {S:List Bool} {L:List Int} {A:Nat→Nat}
theorem psi_start (x:Int) (g:List Int) (m:List Int):psi n TL g x (fun v=>TL.filter fun r=>decide ((trF n.l r).toNat=v)) (Fo.newS m) (List.replicate (n.n.toNat+1) false) (fun v=>(TL.filter fun r=>decide ((trT n.l r).toNat=v)).length)≤15*TL.length+(n.n.toNat+1):=by
 have h1:=sumN_keys (fun r=>(trF n.l r).toNat) (n.n.toNat+1) TL
 have h2:=sumN_keys (fun r=>(trT n.l r).toNat) (n.n.toNat+1) TL
 have h3:=left_le n.l TL x g
 have h4:=sumN_const 1 (n.n.toNat+1)
 have h5:sumN (pv n g x (fun v=>TL.filter fun r=>decide ((trF n.l r).toNat=v)) (Fo.newS m) (List.replicate (n.n.toNat+1) false) (fun v=>(TL.filter fun r=>decide ((trT n.l r).toNat=v)).length)) (n.n.toNat+1) ≤
   sumN (fun v=>10*(TL.filter fun r=>decide ((trF n.l r).toNat=v)).length+(1+(TL.filter fun r=>decide ((trT n.l r).toNat=v)).length)) (n.n.toNat+1):=sumN_le fun j hj=>by
  unfold pv
  rw [replB,show (Fo.newS m).up j=none from rfl]
  simp only [Bool.false_eq_true,if_false]
  have:=List.countP_le_length (p:=alive n g x (List.replicate (n.n.toNat+1) false)) (l:=TL.filter fun r=>decide ((trF n.l r).toNat=j))
  generalize (TL.filter fun r=>decide ((trF n.l r).toNat=j)).countP _=a at *
  omega
 rw [sumN_add,sumN_mul,sumN_add (fun _=>1)] at h5
 unfold psi
 omega
theorem alive_le {S2:List Bool} (hg:∀ r∈TL,roomN n.l g2 r≤roomN n.l g r) (hS:∀ i,S.getD i false=true→S2.getD i false=true) {l:List Nat} (hl:∀ r∈l,r∈TL):l.countP (alive n g2 x S2)≤l.countP (alive n g x S):=by
 refine List.countP_mono_left fun r hr h=>?_
 unfold alive at h ⊢
 simp only [Bool.and_eq_true,decide_eq_true_eq,Bool.not_eq_true'] at h ⊢
 refine ⟨Int.le_trans h.1 (hg r (hl r hr)),?_⟩
 rcases c:S.getD (trT n.l r).toNat false with _ | _
 ·rfl
 ·rw [hS _ c] at h;exact absurd h.2 (by simp)
theorem psi_drop (h:Tre n TL g x U f RL S) {v r:Nat} {T:List Nat} (hv:v<n.n.toNat+1) (hup:f.up v=none) (hU:U v=r :: T) :
  psi n TL g x (fun j=>if j=v then T else U j) f S A+1≤psi n TL g x U f S A:=by
 unfold psi
 have:=sumN_upd (h:=pv n g x U f S A) (h2:=pv n g x (fun j=>if j=v then T else U j) f S A) (k:=1) hv (fun j hj hjv=>by unfold pv;simp only [if_neg hjv];exact Nat.le_refl _) (by
  unfold pv
  rw [hup,hU]
  simp only [if_true,List.countP_cons,List.length_cons]
  omega)
 omega
theorem psi_hang {v w r:Nat} {T:List Nat} (hv:v<n.n.toNat+1) (hup:f.up v=none) (hU:U v=r :: T) (hx:x≤roomN n.l g r) (hs:S.getD (trT n.l r).toNat false=false) (h2:∀ y,f2.up y=if y=v then some w else f.up y) :
  psi n TL g x U f2 S A+3≤psi n TL g x U f S A:=by
 unfold psi
 have:=sumN_upd (h:=pv n g x U f S A) (h2:=pv n g x U f2 S A) (k:=3) hv (fun j hj hjv=>by unfold pv;rw [h2,if_neg hjv];exact Nat.le_refl _) (by
  unfold pv
  rw [h2,if_pos rfl,hup,hU]
  simp only [List.countP_cons,List.length_cons,List.tail_cons]
  rw [if_pos (show alive n g x S r=true by unfold alive;rw [hs];simpa using hx)]
  omega)
 omega
theorem psi_part {v u r:Nat} {T:List Nat} (hv:v<n.n.toNat+1) (hup:f.up v=some u) (hU:U v=r :: T) (hx:¬ (x≤roomN n.l g r∧S.getD (trT n.l r).toNat false=false)) (ho:Off1 f f2 v) :
  psi n TL g x U f2 S A+6≤psi n TL g x U f S A:=by
 unfold psi
 have:=sumN_upd (h:=pv n g x U f S A) (h2:=pv n g x U f2 S A) (k:=6) hv (fun j hj hjv=>by unfold pv;rw [ho.up,if_neg hjv];exact Nat.le_refl _) (by
  unfold pv
  rw [ho.up,if_pos rfl,hup,hU]
  simp only [List.countP_cons,List.length_cons,List.tail_cons]
  have hd:¬ alive n g x S r=true:=fun c=>hx (by
   unfold alive at c
   simpa [Bool.and_eq_true] using c)
  rw [if_neg hd]
  omega)
 omega
theorem psi_push (h:Tre n TL g x U f RL S) (hB:Beh n.l TL g g2) (hl:left n.l TL x g2<left n.l TL x g) (hup:f2.up=f.up):psi n TL g2 x U f2 S A+4≤psi n TL g x U f S A:=by
 unfold psi
 have:=sumN_le (h:=pv n g x U f S A) (h2:=pv n g2 x U f2 S A) (m:=n.n.toNat+1) fun j hj=>by
  unfold pv
  rw [hup]
  have hm:∀ r∈U j,r∈TL:=fun r hr=>(h.srch.sub j hj r hr).1
  have h1:=alive_le (n:=n) (x:=x) (S:=S) (S2:=S) hB.dec (fun i hi=>hi) hm
  have h2:=alive_le (n:=n) (x:=x) (S:=S) (S2:=S) hB.dec (fun i hi=>hi) (l:=(U j).tail) fun r hr=>hm r (List.mem_of_mem_tail hr)
  cases f.up j with
  | none=>simp only [];omega
  | some u=>simp only [];omega
 omega
theorem psi_spend (h:Tre n TL g x U f RL S) {v:Nat} (hv:v<n.n.toNat+1) (hs:S.getD v false=false):psi n TL g x U f (S.set v true) A+(1+A v)≤psi n TL g x U f S A:=by
 unfold psi
 have hset:=fun j=>getD_set S v j (by rw [h.slen];exact hv)
 have hall:∀ j,j<n.n.toNat+1→(match f.up j with | none=>9*(U j).countP (alive n g x (S.set v true)) | some _=>9*(U j).tail.countP (alive n g x (S.set v true))+6)≤(match f.up j with | none=>9*(U j).countP (alive n g x S) | some _=>9*(U j).tail.countP (alive n g x S)+6):=fun j hj=>by
  have hm:∀ r∈U j,r∈TL:=fun r hr=>(h.srch.sub j hj r hr).1
  have hS:∀ i,S.getD i false=true→(S.set v true).getD i false=true:=fun i hi=>by
   rw [hset]
   split
   ·rfl
   ·exact hi
  have h1:=alive_le (n:=n) (g:=g) (g2:=g) (x:=x) (S:=S) (S2:=S.set v true) (TL:=TL) (fun r _=>Int.le_refl _) hS hm
  have h2:=alive_le (n:=n) (g:=g) (g2:=g) (x:=x) (S:=S) (S2:=S.set v true) (TL:=TL) (fun r _=>Int.le_refl _) hS (l:=(U j).tail) fun r hr=>hm r (List.mem_of_mem_tail hr)
  cases f.up j with
  | none=>simp only [];omega
  | some u=>simp only [];omega
 have:=sumN_upd (h:=pv n g x U f S A) (h2:=pv n g x U f (S.set v true) A) (k:=1+A v) hv (fun j hj hjv=>by
  have h1:=hall j hj
  unfold pv
  rw [hset,if_neg hjv]
  omega) (by
  have h1:=hall v hv
  unfold pv
  rw [hset,if_pos rfl,hs]
  simp only [Bool.false_eq_true,if_true,if_false]
  omega)
 omega
def setG (g:List Int) (l:List Int) (R:List Nat):List Int:=R.foldl (fun l r=>l.set (r / 2) (amt g (r / 2))) l
theorem setG_snoc (g l:List Int) (R:List Nat) (r:Nat):setG g l (R ++ [r])=(setG g l R).set (r / 2) (amt g (r / 2)):=by simp [setG,List.foldl_append]
theorem setG_len (g:List Int):∀ (R:List Nat) (l:List Int),(setG g l R).length=l.length
 | [],l=>rfl
 | r :: R,l=>by show (setG g (l.set (r / 2) (amt g (r / 2))) R).length=_;rw [setG_len,List.length_set]
theorem setG_at (g:List Int):∀ (R:List Nat) (l:List Int) (i:Nat),(∀ r∈R,r / 2<l.length)→amt (setG g l R) i=if (∃ r∈R,r / 2=i) then amt g i else amt l i
 | [],l,i,_=>by simp [setG]
 | r :: R,l,i,h=>by
  show amt (setG g (l.set (r / 2) (amt g (r / 2))) R) i=_
  rw [setG_at g R _ i fun q hq=>by rw [List.length_set];exact h q (List.mem_cons_of_mem _ hq),amt_set _ (h r (by simp))]
  by_cases c:∃ q∈R,q / 2=i
  ·obtain ⟨q,hq,e⟩:=c
   rw [if_pos ⟨q,hq,e⟩,if_pos ⟨q,List.mem_cons_of_mem _ hq,e⟩]
  ·rw [if_neg c]
   by_cases c2:i=r / 2
   ·rw [if_pos c2,if_pos ⟨r,by simp,c2.symm⟩,c2]
   ·rw [if_neg c2,if_neg]
    rintro ⟨q,hq,e⟩
    rcases List.mem_cons.1 hq with e2 | hq
    ·subst e2;exact c2 e.symm
    ·exact c ⟨q,hq,e⟩
theorem setG_all (hL:Lds n.l L TL) {f0:List Int} (hl:f0.length=n.l.length) (hB:Beh n.l TL f0 g):setG g f0 TL=g:=by
 refine ext_amt (by rw [setG_len,hl,hB.len]) fun i hi=>?_
 rw [setG_len,hl] at hi
 rw [setG_at g TL f0 i fun r hr=>by have:=hL.lt r hr;omega]
 split
 ·rfl
 ·rename_i c
  have h1:2*i ∉ TL:=fun h=>c ⟨2*i,h,by omega⟩
  have h2:2*i+1 ∉ TL:=fun h=>c ⟨2*i+1,h,by omega⟩
  have e1:opp (2*i)=2*i+1:=by unfold opp;rw [if_neg (by omega)]
  have e2:opp (2*i+1)=2*i:=by unfold opp;rw [if_pos (by omega)];omega
  have k1:¬ roomN n.l f0 (2*i)<roomN n.l g (2*i):=fun h=>h2 (by rw [← e1];exact hB.inc _ (by omega) h)
  have k2:¬ roomN n.l f0 (2*i+1)<roomN n.l g (2*i+1):=fun h=>h1 (by rw [← e2];exact hB.inc _ (by omega) h)
  rw [room_even,room_even] at k1
  rw [room_odd,room_odd] at k2
  omega
end
end Ne
end Go.Proofs.YthhlfphnokdfaaaGreat
