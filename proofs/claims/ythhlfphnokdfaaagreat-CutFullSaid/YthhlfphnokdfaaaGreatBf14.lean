/-
  Cts, Trp, Spm, Spt
-/
import Derived.Test.YthhlfphnokdfaaaGreatBf13
import Derived.Test.YthhlfphnokdfaaaGreatBf12
import Derived.Test.YthhlfphnokdfaaaGreatBf5
import Derived.Test.YthhlfphnokdfaaaGreatBf2
set_option linter.unusedVariables false
set_option linter.unusedSimpArgs false
set_option maxRecDepth 100000
set_option maxHeartbeats 4000000
namespace Go.Proofs.YthhlfphnokdfaaaGreat
namespace Ne
structure Best (n:Net) (g:List Int) (M B:List Bool):Prop where
 flow:Flow n g
 rm:IsReach n g 1 M
 rb:IsReach (turnN n) g 1 B
 cut:CutF n g M B
 top:∀ f,Flow n f→exc n.l f n.t≤exc n.l g n.t
theorem best_of {n:Net} (hR:Right n) {g:List Int} (hF:Flow n g) {M B:List Bool} (hM:IsReach n g 1 M) (hB:IsReach (turnN n) g 1 B) (ht:M.getD n.t.toNat false=false):Best n g M B:=by
 have C:=cutF hR (right_back hR) hF hM hB ht
 refine ⟨hF,hM,hB,C,fun f h=>?_⟩
 rw [C.first]
 exact flow_capP hR h (by show (!_)=false;rw [C.ms];rfl) (by show (!_)=true;rw [C.mt];rfl)
section
variable {n:Net} {g:List Int} {M B:List Bool}
theorem Best.chk (h:Best n g M B) (ck:checkN n=0):chkF n g=0:=flow_chkF ck h.flow
theorem Best.firE (h:Best n g M B) (ck:checkN n=0):firE n g M=0:=firE_ok (h.chk ck) h.cut.mt
theorem Best.lasE (h:Best n g M B) (ck:checkN n=0):lasE n g B=0:=lasE_ok (h.chk ck) h.cut.bs
theorem Best.firV (h:Best n g M B) (ck:checkN n=0):firV n g M=nodesTo (fun v=>M.getD v false) n.n.toNat:=firV_ok (h.firE ck)
theorem Best.lasV (h:Best n g M B) (ck:checkN n=0):lasV n g B=nodesTo (fun v=>!(B.getD v false)) n.n.toNat:=lasV_ok (h.lasE ck)
theorem shut_full {l:List Arc} {f:List Int} {P:Int→Bool} (hw:wi l f) (h:Shut l f P) {i:Nat} (hi:i<l.length) :
  (P (arcAt l i).fr=false→P (arcAt l i).to=true→amt f i=(arcAt l i).cap)∧(P (arcAt l i).fr=true→P (arcAt l i).to=false→amt f i=0):=by
 have h1:=(shut_arcs hw).1 h i hi
 unfold cutA capT at h1
 constructor
 ·intro c1 c2;rw [c1,c2] at h1;simpa using h1
 ·intro c1 c2;rw [c1,c2] at h1;simp at h1;omega
theorem Best.full (h:Best n g M B) (ck:checkN n=0) {i:Nat} (hi:i<n.l.length) {u v:Nat} (hu:(arcAt n.l i).fr=(u:Int)) (hv:(arcAt n.l i).to=(v:Int)) :
  ((M.getD u false=true∧M.getD v false=false)∨(B.getD u false=false∧B.getD v false=true)→amt g i=(arcAt n.l i).cap) ∧
  ((M.getD v false=true∧M.getD u false=false)∨(B.getD v false=false∧B.getD u false=true)→amt g i=0):=by
 have hR:=right_of ck
 have s1:=shut_full h.flow.wi ((cut_shut hR h.flow (P:=fun v=>!(M.getD v.toNat false)) (by show (!_)=false;rw [h.cut.ms];rfl) (by show (!_)=true;rw [h.cut.mt];rfl)).1 h.cut.first) hi
 have s2:=shut_full h.flow.wi ((cut_shut hR h.flow (P:=fun v=>B.getD v.toNat false) h.cut.bs h.cut.bt).1 h.cut.last) hi
 rw [hu,hv] at s1 s2
 simp only [Int.toNat_natCast] at s1 s2
 constructor
 ·rintro (⟨c1,c2⟩ | ⟨c1,c2⟩)
  ·exact s1.1 (by rw [c1];rfl) (by rw [c2];rfl)
  ·exact s2.1 c1 c2
 ·rintro (⟨c1,c2⟩ | ⟨c1,c2⟩)
  ·exact s1.2 (by rw [c2];rfl) (by rw [c1];rfl)
  ·exact s2.2 c2 c1
end
theorem none_over {n:Net} (ck:checkN n=0) {p:Nat→Bool} (hs:p n.s.toNat=true) (ht:p n.t.toNat=false) (h:arcsV n (nodesTo p n.n.toNat)=[]):proE n (List.replicate n.l.length 0) (nodesTo p n.n.toNat)=0:=by
 have hR:=right_of ck
 have hF:=flow_nought hR
 refine proE_ok (flow_chkF ck hF) (nodes_cut ck hs ht) ?_
 rw [flow_vaV ck hF,exc_zero (fun i=>by simp [amt,List.getElem?_replicate];split <;> rfl),← capV_sum,h]
 simp [sumV]
end Ne
namespace Ne
section
variable {n:Net} {TL:List Nat} {g:List Int} {x:Int} {RM:List Int} {U:Nat→List Nat} {L:List Int}
theorem first_heads (hR:Right n) (hL:Lds n.l L TL) (hS:Srch n TL g x RM U):∀ {R:List Nat} {u:Int},Wlk n.l TL g x u R n.t→(∀ r∈R,∃ T,U (trF n.l r).toNat=r :: T)→FirstW n.l TL g x n.t u R:=by
 intro R
 induction R with
 | nil =>
  intro u h _
  rcases wlk_inv h with ⟨_,e⟩ | ⟨r,R',e,_⟩
  ·rw [e];exact .done
  ·exact absurd e (by simp)
 | cons r R ih =>
  intro u h hh
  have hlev:=wlk_lev hL h
  rcases wlk_inv h with ⟨e,_⟩ | ⟨r',R',e,eu,hr,hx,hw⟩
  ·exact absurd e (by simp)
  ·obtain ⟨rfl,rfl⟩:r=r'∧R=R':=by simpa using e
   subst eu
   refine .step ?_ hr hx (ih hw fun q hq=>hh q (List.mem_cons_of_mem _ hq)) ?_
   ·intro e
    rw [e] at hlev
    simp at hlev
    omega
   ·intro q hq eq hxq hlt
    obtain ⟨T,hT⟩:=hh r List.mem_cons_self
    have hv:(trF n.l r).toNat<n.n.toNat+1:=by have:=trF_bd hR (hL.lt r hr);omega
    have hs:=hS.srt _ hv
    rw [hT] at hs
    refine hS.gone q hq ?_ hxq
    rw [eq,hT]
    intro hm
    rcases List.mem_cons.1 hm with e | hm
    ·omega
    ·have:=(List.pairwise_cons.1 hs).1 q hm;omega
theorem srch_drop (hS:Srch n TL g x RM U) {v r:Nat} {T:List Nat} (hv:v<n.n.toNat+1) (hU:U v=r :: T) (hI:Idle n.l TL g x n.t r):Srch n TL g x RM (fun w=>if w=v then T else U w):=by
 refine ⟨hS.len,hS.rm,?_,?_,?_⟩
 ·intro w hw q hq
  by_cases c:w=v
  ·subst c
   rw [if_pos rfl] at hq
   exact hS.sub w hw q (by rw [hU];exact List.mem_cons_of_mem _ hq)
  ·rw [if_neg c] at hq
   exact hS.sub w hw q hq
 ·intro w hw
  by_cases c:w=v
  ·subst c
   rw [if_pos rfl]
   have:=hS.srt w hw
   rw [hU] at this
   exact (List.pairwise_cons.1 this).2
  ·rw [if_neg c]
   exact hS.srt w hw
 ·intro q hq hn
  by_cases c:(trF n.l q).toNat=v
  ·rw [if_pos c] at hn
   by_cases c2:q=r
   ·rw [c2];exact hI
   ·refine hS.gone q hq ?_
    rw [c,hU]
    intro hm
    rcases List.mem_cons.1 hm with e | hm
    ·exact c2 e
    ·exact hn hm
  ·rw [if_neg c] at hn
   exact hS.gone q hq hn
theorem srch_none (hS:Srch n TL g x RM U) {v:Int} (hU:U v.toNat=[]) (hne:v≠n.t):∀ R,¬ Wlk n.l TL g x v R n.t:=by
 intro R h
 rcases wlk_inv h with ⟨_,e⟩ | ⟨r,R',_,eu,hr,hx,hw⟩
 ·exact hne e
 ·exact hS.gone r hr (by rw [← eu,hU];simp) hx R' hw
end
end Ne
end Go.Proofs.YthhlfphnokdfaaaGreat
namespace Go.Proofs.YthhlfphnokdfaaaGreat
open Go.ChangeShapes Go.WideShapes Go.ChangeAt Go.RowKit
open Lib (hid)
namespace Sp
structure St where
 v:List Int
 r:Nat→List Nat
abbrev big:Int:=4611686018427387904
structure Good (s:St):Prop where
 mem:∀ x,x<s.v.length→x∈s.r x
 none:∀ x,s.v.length≤x→s.r x=[]
 lt:∀ x y,y∈s.r x→y<s.v.length
 same:∀ x y,y∈s.r x→s.r y=s.r x
 nodup:∀ x,(s.r x).Nodup
 bnd:∀ i,i<s.v.length→-big≤Ne.amt s.v i∧Ne.amt s.v i≤big
 small:s.v.length≤3000
section
variable {s:St}
theorem Good.ne_nil (h:Good s) {x:Nat} (hx:x<s.v.length):s.r x≠[]:=fun e=>by have:=h.mem x hx;rw [e] at this;simp at this
theorem Good.nil_iff (h:Good s) {x:Nat}:s.r x=[]↔s.v.length≤x:=by
 constructor
 ·intro e
  rcases Nat.lt_or_ge x s.v.length with c | c
  ·exact absurd e (h.ne_nil c)
  ·exact c
 ·exact h.none x
theorem len_le {l:List Nat} {n:Nat} (hn:l.Nodup) (hl:∀ y∈l,y<n):l.length≤n:=Ne.nodup_len hn hl
theorem Good.len (h:Good s) (x:Nat):(s.r x).length≤s.v.length:=len_le (h.nodup x) (h.lt x)
end
def rowZ (s:St) (x:Int):List Nat:=if x<0 then [] else s.r x.toNat
theorem rowZ_nat (s:St) (x:Nat):rowZ s (x:Int)=s.r x:=by unfold rowZ;rw [if_neg (by omega)];simp
theorem rowZ_nil {s:St} (h:Good s) {x:Int}:rowZ s x=[]↔x<0∨(s.v.length:Int)≤x:=by
 unfold rowZ
 by_cases c:x<0
 ·rw [if_pos c];simp [c]
 ·rw [if_neg c,h.nil_iff];omega
theorem rowZ_lt {s:St} (h:Good s) {x:Int} {y:Nat} (hy:y∈rowZ s x):y<s.v.length:=by
 unfold rowZ at hy
 split at hy
 ·simp at hy
 ·exact h.lt _ _ hy
theorem rowZ_len {s:St} (h:Good s) (x:Int):(rowZ s x).length≤s.v.length:=by
 unfold rowZ
 split
 ·simp
 ·exact h.len _
theorem rowZ_self {s:St} (h:Good s) {x:Int} (hx:rowZ s x≠[]):x.toNat∈rowZ s x∧0≤x∧x.toNat<s.v.length:=by
 have:=mt (rowZ_nil h (x:=x)).2 hx
 have h2:x.toNat<s.v.length:=by omega
 refine ⟨?_,by omega,h2⟩
 unfold rowZ;rw [if_neg (by omega)]
 exact h.mem _ h2
theorem rowZ_nodup {s:St} (h:Good s) (x:Int):(rowZ s x).Nodup:=by
 unfold rowZ
 split
 ·simp
 ·exact h.nodup _
theorem rowZ_same {s:St} (h:Good s) {x:Int} {y:Nat} (hy:y∈rowZ s x):s.r y=rowZ s x:=by
 unfold rowZ at hy ⊢
 split at hy
 ·simp at hy
 ·rename_i c;rw [if_neg c];exact h.same _ _ hy
def firstZ (s:St) (x:Int):Int:=match rowZ s x with | []=>-1 | a :: _=>(a:Int)
def lastZ (s:St) (x:Int):Int:=match (rowZ s x).getLast? with | none=>-1 | some a=>(a:Int)
def atL (l:List Nat) (p:Int):Int:=if p<0 then -1 else match l[p.toNat]? with | none=>-1 | some a=>(a:Int)
def atZ (s:St) (x p:Int):Int:=atL (rowZ s x) p
def placeZ (s:St) (x:Int):Int:=if rowZ s x=[] then -1 else ((rowZ s x).idxOf x.toNat:Nat)
def valZ (s:St) (x:Int):Int:=if x<0 then 0 else Ne.amt s.v x.toNat
def leastL (v:List Int) (l:List Nat):Int:=l.foldl (fun (b:Int) i=>if b<0∨Ne.amt v i<Ne.amt v b.toNat then (i:Int) else b) (-1)
def leastZ (s:St) (x:Int):Int:=leastL s.v (rowZ s x)
def joinE (s:St) (a b:Int):Int:=if rowZ s a=[]∨rowZ s b=[] then 4 else if b.toNat∈rowZ s a then 5 else 0
def joinR (s:St) (a b:Int):St:=⟨s.v,fun y=>if y∈rowZ s a∨y∈rowZ s b then rowZ s a ++ rowZ s b else s.r y⟩
def joinS (s:St) (a b:Int):St:=if joinE s a b=0 then joinR s a b else s
def splitE (s:St) (x:Int):Int:=if rowZ s x=[] then 4 else 0
def cutR (s:St) (l:List Nat) (k:Nat):St:=⟨s.v,fun y=>if y∈l.take k then l.take k else if y∈l.drop k then l.drop k else s.r y⟩
def splitS (s:St) (x:Int):St:=cutR s (rowZ s x) ((rowZ s x).idxOf x.toNat)
def fits (v d:Int):Bool:=if 0≤d then decide (v≤big-d) else decide (-big-d≤v)
def addE (s:St) (x d:Int):Int:=if rowZ s x=[] then 4 else if ∀ i∈rowZ s x,fits (Ne.amt s.v i) d=true then 0 else 3
def addL (v:List Int) (l:List Nat) (d:Int):List Int:=(List.range v.length).map fun i=>if i∈l then Ne.amt v i+d else Ne.amt v i
def addS (s:St) (x d:Int):St:=if addE s x d=0 then ⟨addL s.v (rowZ s x) d,s.r⟩ else s
def newE (vs:List Int):Int:=if 3000<vs.length then 1 else if ∀ i,i<vs.length→-big≤Ne.amt vs i∧Ne.amt vs i≤big then 0 else 3
def newS (vs:List Int):St:=⟨vs,fun x=>if x<vs.length then [x] else []⟩
theorem addL_len (v:List Int) (l:List Nat) (d:Int):(addL v l d).length=v.length:=by simp [addL]
theorem addL_at {v:List Int} {l:List Nat} {d:Int} {i:Nat} (h:i<v.length):Ne.amt (addL v l d) i=if i∈l then Ne.amt v i+d else Ne.amt v i:=by simp [addL,Ne.amt,h]
theorem fits_iff (v d:Int) (hv:-big≤v∧v≤big):fits v d=true↔-big≤v+d∧v+d≤big:=by
 unfold fits
 split <;> simp <;> omega
section
variable {s:St}
theorem good_new {vs:List Int} (h:newE vs=0):Good (newS vs):=by
 unfold newE at h
 split at h
 ·cases h
 ·split at h
  ·rename_i h1 h2
   refine ⟨fun x hx=>?_,fun x hx=>?_,fun x y hy=>?_,fun x y hy=>?_,fun x=>?_,h2,by show vs.length≤3000;omega⟩
   ·have hx':x<vs.length:=hx
    show x∈(if x<vs.length then [x] else []);rw [if_pos hx'];simp
   ·have hx':vs.length≤x:=hx
    show (if x<vs.length then [x] else [])=[];rw [if_neg (by omega)]
   ·have hy':y∈(if x<vs.length then [x] else []):=hy
    split at hy'
    ·simp at hy';subst hy';assumption
    ·simp at hy'
   ·have hy':y∈(if x<vs.length then [x] else []):=hy
    split at hy'
    ·simp at hy';subst hy';rfl
    ·simp at hy'
   ·show (if x<vs.length then [x] else []).Nodup
    split <;> simp
  ·cases h
theorem good_part (h:Good s) {l A B:List Nat} {x:Int} (hl:rowZ s x=l) (hne:l≠[]) {r:Nat→List Nat} (hr:∀ y,y ∉ l→r y=s.r y) (hA:∀ y,y∈l→y∈r y∧(∀ z∈r y,z∈l)∧(∀ z∈r y,r z=r y)∧(r y).Nodup):Good ⟨s.v,r⟩:=by
 have hlt:∀ y∈l,y<s.v.length:=fun y hy=>rowZ_lt h (by rw [hl];exact hy)
 have hs:∀ y∈l,s.r y=l:=fun y hy=>by rw [rowZ_same h (by rw [hl];exact hy),hl]
 have hout:∀ x z,x ∉ l→z∈s.r x→z ∉ l:=fun x z hx hz hz2=>by
  have e1:=hs z hz2
  have e2:=h.same x z hz
  rcases Nat.lt_or_ge x s.v.length with c | c
  ·exact hx (by rw [← e1,e2];exact h.mem x c)
  ·rw [h.none x c] at hz;simp at hz
 refine ⟨fun x hx=>?_,fun x hx=>?_,fun x y hy=>?_,fun x y hy=>?_,fun x=>?_,h.bnd,h.small⟩
 ·by_cases c:x∈l
  ·exact (hA x c).1
  ·show x∈r x;rw [hr x c];exact h.mem x hx
 ·have c:x ∉ l:=fun c=>by have:=hlt x c;have hx':s.v.length≤x:=hx;omega
  show r x=[];rw [hr x c];exact h.none x hx
 ·have hy':y∈r x:=hy
  show y<s.v.length
  by_cases c:x∈l
  ·exact hlt y ((hA x c).2.1 y hy')
  ·rw [hr x c] at hy';exact h.lt x y hy'
 ·have hy':y∈r x:=hy
  show r y=r x
  by_cases c:x∈l
  ·exact (hA x c).2.2.1 y hy'
  ·rw [hr x c] at hy' ⊢
   rw [hr y (hout x y c hy')]
   exact h.same x y hy'
 ·show (r x).Nodup
  by_cases c:x∈l
  ·exact (hA x c).2.2.2
  ·rw [hr x c];exact h.nodup x
theorem good_cut (h:Good s) (x:Int) (k:Nat):Good (cutR s (rowZ s x) k):=by
 by_cases hne:rowZ s x=[]
 ·have:(cutR s (rowZ s x) k)=s:=by unfold cutR;rw [hne];simp
  rw [this];exact h
 ·generalize hl:rowZ s x=l at *
  have hnd:l.Nodup:=by rw [← hl];exact rowZ_nodup h x
  have hd:∀ y,y∈l.take k→y ∉ l.drop k:=fun y h1 h2=>by
   have:=List.take_append_drop k l
   rw [← this] at hnd
   exact (List.nodup_append.1 hnd).2.2 y h1 y h2 rfl
  have e1:∀ z∈l.take k,(cutR s l k).r z=l.take k:=fun z hz=>by show (if _ then _ else _)=_;rw [if_pos hz]
  have e2:∀ z∈l.drop k,(cutR s l k).r z=l.drop k:=fun z hz=>by show (if _ then _ else _)=_;rw [if_neg (fun c=>hd z c hz),if_pos hz]
  refine good_part h hl hne (r:=(cutR s l k).r) (A:=[]) (B:=[]) (fun y hy=>?_) (fun y hy=>?_)
  ·show (if _ then _ else _)=_
   rw [if_neg (fun c=>hy (List.mem_of_mem_take c)),if_neg (fun c=>hy (List.mem_of_mem_drop c))]
  ·rw [← List.take_append_drop k l] at hy
   rcases List.mem_append.1 hy with c | c
   ·rw [e1 y c]
    exact ⟨c,fun z hz=>List.mem_of_mem_take hz,fun z hz=>e1 z hz,hnd.sublist (List.take_sublist _ _)⟩
   ·rw [e2 y c]
    exact ⟨c,fun z hz=>List.mem_of_mem_drop hz,fun z hz=>e2 z hz,hnd.sublist (List.drop_sublist _ _)⟩
theorem good_split (h:Good s) (x:Int):Good (splitS s x):=good_cut h x _
theorem good_join (h:Good s) (a b:Int):Good (joinS s a b):=by
 unfold joinS
 split
 ·rename_i e
  unfold joinE at e
  split at e
  ·cases e
  ·split at e
   ·cases e
   ·rename_i h1 h2
    have ha:rowZ s a≠[]:=fun c=>h1 (.inl c)
    have hb:rowZ s b≠[]:=fun c=>h1 (.inr c)
    have hb2:=rowZ_self h hb
    have hdis:∀ y,y∈rowZ s a→y ∉ rowZ s b:=fun y hy hy2=>by
     apply h2
     have e1:=rowZ_same h hy
     have e2:=rowZ_same h hy2
     rw [← e1,e2];exact hb2.1
    have hnd:(rowZ s a ++ rowZ s b).Nodup:=List.nodup_append.2 ⟨rowZ_nodup h a,rowZ_nodup h b,fun x hx y hy e=>hdis x hx (e▸hy)⟩
    have hs:∀ y,y∈rowZ s a∨y∈rowZ s b→(joinR s a b).r y=rowZ s a ++ rowZ s b:=fun y hy=>by show (if _ then _ else _)=_;rw [if_pos hy]
    have hn:∀ y,¬ (y∈rowZ s a∨y∈rowZ s b)→(joinR s a b).r y=s.r y:=fun y hy=>by show (if _ then _ else _)=_;rw [if_neg hy]
    have hout:∀ x z,¬ (x∈rowZ s a∨x∈rowZ s b)→z∈s.r x→¬ (z∈rowZ s a∨z∈rowZ s b):=fun x z hx hz hz2=>by
     apply hx
     have hxx:x∈s.r z:=by
      rw [h.same x z hz]
      rcases Nat.lt_or_ge x s.v.length with c | c
      ·exact h.mem x c
      ·rw [h.none x c] at hz;simp at hz
     rcases hz2 with c | c
     ·left;rw [rowZ_same h c] at hxx;exact hxx
     ·right;rw [rowZ_same h c] at hxx;exact hxx
    refine ⟨fun x hx=>?_,fun x hx=>?_,fun x y hy=>?_,fun x y hy=>?_,fun x=>?_,h.bnd,h.small⟩
    ·by_cases c:x∈rowZ s a∨x∈rowZ s b
     ·rw [hs x c];exact List.mem_append.2 c
     ·rw [hn x c];exact h.mem x hx
    ·have c:¬ (x∈rowZ s a∨x∈rowZ s b):=fun c=>by
      have hx':s.v.length≤x:=hx
      rcases c with c | c
      ·have:=rowZ_lt h c;omega
      ·have:=rowZ_lt h c;omega
     rw [hn x c];exact h.none x hx
    ·show y<s.v.length
     by_cases c:x∈rowZ s a∨x∈rowZ s b
     ·rw [hs x c] at hy
      rcases List.mem_append.1 hy with c | c
      ·exact rowZ_lt h c
      ·exact rowZ_lt h c
     ·rw [hn x c] at hy;exact h.lt x y hy
    ·by_cases c:x∈rowZ s a∨x∈rowZ s b
     ·rw [hs x c] at hy ⊢;exact hs y (List.mem_append.1 hy)
     ·rw [hn x c] at hy ⊢;rw [hn y (hout x y c hy)];exact h.same x y hy
    ·by_cases c:x∈rowZ s a∨x∈rowZ s b
     ·rw [hs x c];exact hnd
     ·rw [hn x c];exact h.nodup x
 ·exact h
theorem addE_fits {x d:Int} (e:addE s x d=0):rowZ s x≠[]∧∀ i∈rowZ s x,fits (Ne.amt s.v i) d=true:=by
 unfold addE at e
 split at e
 ·cases e
 ·split at e
  ·rename_i h1 h2;exact ⟨h1,h2⟩
  ·cases e
theorem good_add (h:Good s) (x d:Int):Good (addS s x d):=by
 unfold addS
 split
 ·rename_i e
  have hl:=addL_len s.v (rowZ s x) d
  refine ⟨fun y hy=>h.mem y (by have:y<(addL s.v (rowZ s x) d).length:=hy;omega),fun y hy=>h.none y (by have:(addL s.v (rowZ s x) d).length≤y:=hy;omega),fun y z hz=>by show z<(addL s.v (rowZ s x) d).length;rw [hl];exact h.lt y z hz,h.same,h.nodup,fun i hi=>?_,by show (addL s.v (rowZ s x) d).length≤3000;rw [hl];exact h.small⟩
  have hi':i<s.v.length:=by have:i<(addL s.v (rowZ s x) d).length:=hi;omega
  show -big≤Ne.amt (addL s.v (rowZ s x) d) i∧_
  rw [addL_at hi']
  split
  ·rename_i c
   exact (fits_iff _ _ (h.bnd i hi')).1 ((addE_fits e).2 i c)
  ·exact h.bnd i hi'
 ·exact h
end
end Sp
end Go.Proofs.YthhlfphnokdfaaaGreat
namespace Go.Proofs.YthhlfphnokdfaaaGreat
namespace St
theorem log_mono {a b:Nat} (h:a≤b):a.log2≤b.log2:=by
 by_cases ha:a=0
 ·subst ha;simp
 ·exact (Nat.le_log2 (by omega)).2 (Nat.le_trans (Nat.log2_self_le ha) h)
theorem log_two {a b c:Nat} (ha:1≤a) (hb:1≤b) (h:a+b<c):a.log2+b.log2+1≤2*c.log2:=by
 have key:∀ {a b c:Nat},1≤a→1≤b→a+b<c→a.log2≤b.log2→a.log2+b.log2+1≤2*c.log2:=by
  intro a b c ha hb h hab
  have h1:b.log2≤c.log2:=log_mono (a:=b) (b:=c) (by omega)
  by_cases e:b.log2=c.log2
  ·have h2:=Nat.log2_self_le (n:=b) (by omega)
   have h3:c<2 ^ (c.log2+1):=Nat.lt_log2_self
   rw [e] at h2
   rw [Nat.pow_succ] at h3
   have h4:a.log2<c.log2:=(Nat.log2_lt (by omega)).2 (by omega)
   omega
  ·omega
 rcases Nat.le_total a.log2 b.log2 with c1 | c1
 ·exact key ha hb h c1
 ·have:=key (a:=b) (b:=a) (c:=c) hb ha (by omega) c1
  omega
end St
end Go.Proofs.YthhlfphnokdfaaaGreat
