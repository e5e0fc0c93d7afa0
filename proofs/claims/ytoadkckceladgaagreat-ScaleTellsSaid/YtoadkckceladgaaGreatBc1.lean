/-
  Rowk, Pick, End, Irow
-/
import Derived.Test.YtoadkckceladgaaGreatRows
import Derived.WalkKit
import Derived.ProofKit
import Derived.Below
import Derived.OpenShut
import Derived.Lib.Hide
import Derived.Lib.Slices
import Derived.Laws.AppendOwn
import Derived.Laws.AppendOwnNone
import Derived.OwnWalk
import Derived.BigQuiet
import Derived.Deep.QuietTactic
import Derived.Lib.Small
import Derived.Lib.Walk
import Derived.WalkSpells
import Derived.WalkLawsBesides
import Derived.Deep.RegionHeld
import Derived.BigRegion
import Derived.LoopTactic
import Derived.Deep.RegionLaw
import Derived.Deep.AppendLies
import Derived.Laws.Pointers
import Derived.StillTactics
import Derived.Outline
import Derived.RegionTactic
import Derived.Maps.AppendAt
import Derived.Deep.OwnRows
import Derived.Laws.CopyOwn
set_option linter.unusedVariables false
set_option linter.unusedSimpArgs false
set_option maxRecDepth 100000
set_option maxHeartbeats 4000000
namespace Go.Proofs.YtoadkckceladgaaGreat
open Go.ChangeShapes Go.WideShapes Go.ChangeAt Go.RowKit
open Lib (hid)
namespace Rw

theorem add_at (b off j:Nat):(⟨b,off,none⟩:Addr).add j=⟨b,off+j,none⟩:=by
 unfold Addr.add;by_cases h:j=0
 ·subst h;simp
 ·simp [h]
theorem heap_lt_of_cell {w:World} {b o:Nat} {v:Value} (h:w.cell? ⟨b,o,none⟩=some v):b<w.heap.size:=by
 rcases Nat.lt_or_ge b w.heap.size with hb | hb
 ·exact hb
 ·simp [World.cell?,Array.getElem?_eq_none hb] at h
theorem below_drewN (w:World) (q:Nat):Below w.heap.size w (w.drewN q):=⟨rfl,rfl,rfl,Nat.le_refl _,fun _ _=>rfl⟩

def Row {α:Type} (k:Nat) (enc:α→List Value) (w:World) (ao:Option Addr) (l:List α):Prop :=
 l=[]∨∃ b off,ao=some ⟨b,off,none⟩∧b<w.heap.size∧∀ (i:Nat) (x:α),l[i]? = some x→∀ (j:Nat) (v:Value),(enc x)[j]? = some v→w.cell? ⟨b,off+(i*k+j),none⟩=some v
theorem Row.below {α:Type} {k:Nat} {enc:α→List Value} {w w2:World} {ao:Option Addr} {l:List α} {B:Nat} (h:Row k enc w ao l) (hB:∀ b off,ao=some ⟨b,off,none⟩→b<B) (hs:w.heap.size≤w2.heap.size) (hb:Below B w w2):Row k enc w2 ao l:=by
 rcases h with h | ⟨b,off,rfl,hlt,hc⟩
 ·exact .inl h
 ·exact .inr ⟨b,off,rfl,Nat.lt_of_lt_of_le hlt hs,fun i x hx j v hv=>by rw [hb.cell (p:=⟨b,off+(i*k+j),none⟩) (hB b off rfl)];exact hc i x hx j v hv⟩
theorem Row.kept {α:Type} {k:Nat} {enc:α→List Value} {w w2:World} {ao:Option Addr} {l:List α} (h:Row k enc w ao l) (hb:Below w.heap.size w w2):Row k enc w2 ao l:=by
 rcases h with h | ⟨b,off,rfl,hlt,hc⟩
 ·exact .inl h
 ·exact .inr ⟨b,off,rfl,Nat.lt_of_lt_of_le hlt hb.size,fun i x hx j v hv=>by rw [hb.cell (p:=⟨b,off+(i*k+j),none⟩) hlt];exact hc i x hx j v hv⟩
structure Elem (e t:TypeId) (k bytes:Nat) (z:Value):Prop where
 info:(Tryz.prog.info? e).map (fun i=>(i.zero,i.size,i.bytes))=some (some z,k,bytes)
 und:Tryz.prog.underlying t=some (.slice e)
 zk:z.cells.size=k
 pos:0<k
 small:bytes≤64

def Own {α:Type} (e:TypeId) (k:Nat) (enc:α→List Value) (w:World) (B:Nat) (v:Value) (xs:List α):Prop:=w.ownsRow B e k v xs.length (xs.flatMap enc)
section
variable {α:Type} {e t:TypeId} {k bytes:Nat} {z:Value} {enc:α→List Value}
theorem owN (w:World) (B:Nat):Own e k enc w B (.slice none 0 0) ([]:List α):=⟨by simp,.inl ⟨rfl,rfl⟩⟩
theorem owK {w:World} {B:Nat} {v:Value} {xs:List α} (h:Own e k enc w B v xs):∀ b,v.ownBlock=some b→B≤b:=by
 obtain ⟨h1,h2⟩:=h
 intro b hk
 rcases h2 with ⟨hv,hn⟩ | ⟨g,cap,cur,hv,hg,_⟩
 ·rw [hv] at hk;simp [Value.ownBlock] at hk
 ·rw [hv] at hk;simp [Value.ownBlock] at hk;omega
theorem lt_of_heap {w:World} {g:Nat} {o:Obj} (h:w.heap[g]? = some o):g<w.heap.size:=by
 rcases Nat.lt_or_ge g w.heap.size with h2 | h2
 ·exact h2
 ·rw [Array.getElem?_eq_none h2] at h;cases h
theorem own_below {w w2:World} {B:Nat} {v:Value} {xs:List α} (h:Own e k enc w B v xs) (hb:Below w.heap.size w w2):Own e k enc w2 B v xs:=by
 obtain ⟨h1,h2⟩:=h
 refine ⟨h1,?_⟩
 rcases h2 with h2 | ⟨g,cap,cur,hv,hg,hh,r⟩
 ·exact .inl h2
 ·exact .inr ⟨g,cap,cur,hv,hg,by rw [hb.block g (lt_of_heap hh)];exact hh,r⟩
theorem owA {w:World} {B:Nat} {v:Value} {xs:List α} (h:Own e k enc w B v xs) (o:Obj):Own e k enc (w.alloc o) B v xs :=
 own_below h ((Below.refl _ _).alloc (Nat.le_refl _) o)
theorem own_drewN {w:World} {B:Nat} {v:Value} {xs:List α} (h:Own e k enc w B v xs) (q:Nat):Own e k enc (w.drewN q) B v xs:=h
theorem own_set {w:World} {B:Nat} {v:Value} {xs:List α} (h:Own e k enc w B v xs) {p:Addr} (hp:v.ownBlock≠some p.block) (u:Value):Own e k enc (w.setCell p u) B v xs:=by
 obtain ⟨h1,h2⟩:=h
 refine ⟨h1,?_⟩
 rcases h2 with h2 | ⟨g,cap,cur,hv,hg,hh,r⟩
 ·exact .inl h2
 ·refine .inr ⟨g,cap,cur,hv,hg,?_,r⟩
  rw [Below.heap_setCell _ _ _ _ (fun he=>hp (by rw [hv,← he];rfl))];exact hh
theorem own_base {w:World} {B B':Nat} {v:Value} {xs:List α} (h:Own e k enc w B v xs) (hB:B'≤B):Own e k enc w B' v xs:=by
 obtain ⟨h1,h2⟩:=h
 refine ⟨h1,?_⟩
 rcases h2 with h2 | ⟨g,cap,cur,hv,hg,r⟩
 ·exact .inl h2
 ·exact .inr ⟨g,cap,cur,hv,by omega,r⟩
theorem flat_len {xs:List α} (hk:∀ x,(enc x).length=k):(xs.flatMap enc).length=xs.length*k:=by
 induction xs with
 | nil=>simp
 | cons x xs ih=>rw [List.flatMap_cons,List.length_append,ih,hk,List.length_cons,Nat.succ_mul];omega
theorem flat_at {xs:List α} (hk:∀ x,(enc x).length=k):∀ (i:Nat) (x:α),xs[i]? = some x→∀ (j:Nat) (v:Value),(enc x)[j]? = some v→(xs.flatMap enc)[i*k+j]? = some v:=by
 induction xs with
 | nil=>intro i x hx;simp at hx
 | cons y xs ih =>
  intro i x hx j v hv
  have hj:j<k:=by rw [← hk x];exact (List.getElem?_eq_some_iff.1 hv).1
  rcases i with _ | i
  ·simp at hx;subst hx
   rw [List.flatMap_cons,Nat.zero_mul,Nat.zero_add,List.getElem?_append_left (by rw [hk];exact hj)];exact hv
  ·have:=ih i x (by simpa using hx) j v hv
   rw [List.flatMap_cons,List.getElem?_append_right (by rw [hk,Nat.succ_mul];omega),hk,show (i+1)*k+j-k=i*k+j by rw [Nat.succ_mul];omega];exact this
theorem owR {w:World} {B:Nat} {v:Value} {xs:List α} (hk:∀ x,(enc x).length=k) (h:Own e k enc w B v xs) :
  ∃ ao cap,v=.slice ao xs.length cap∧xs.length≤cap∧cap≤maxLen∧(ao=none→cap=0)∧Row k enc w ao xs∧(∀ b off,ao=some ⟨b,off,none⟩→B≤b∧b<w.heap.size)∧(∀ a,ao=some a→∃ b,a=⟨b,0,none⟩):=by
 obtain ⟨h1,h2⟩:=h
 rcases h2 with ⟨hv,hn⟩ | ⟨g,cap,cur,hv,hg,hh,hc,hm,hs,ht⟩
 ·exact ⟨none,0,by rw [hv,hn],by omega,by unfold maxLen;omega,fun _=>rfl,.inl (List.length_eq_zero_iff.1 hn),fun _ _ h=>(by cases h),fun _ h=>(by cases h)⟩
 ·refine ⟨some ⟨g,0,none⟩,cap,hv,hc,hm,fun h=>by (cases h),.inr ⟨g,0,rfl,lt_of_heap hh,?_⟩,fun b off h=>by cases h;exact ⟨hg,lt_of_heap hh⟩,fun a h=>by cases h;exact ⟨g,rfl⟩⟩
  intro i x hx j v hv
  have hi:i<xs.length:=(List.getElem?_eq_some_iff.1 hx).1
  have hj:j<k:=by rw [← hk x];exact (List.getElem?_eq_some_iff.1 hv).1
  have hlt:i*k+j<xs.length*k:=by
   have:(i+1)*k≤xs.length*k:=Nat.mul_le_mul_right k hi
   rw [Nat.succ_mul] at this;omega
  have e:cur[i*k+j]? = some v:=by
   have:=congrArg (fun l=>l[i*k+j]?) ht
   simp only [List.getElem?_take,Array.getElem?_toList] at this
   rw [if_pos hlt,flat_at hk i x hx j v hv] at this
   exact this
  simp [World.cell?,hh,e]

theorem app (E:Elem e t k bytes z) (hk:∀ x:α,(enc x).length=k) (h1:∀ x,∀ u∈enc x,u.oneCell' = true)
  {ops:Array Oper} {rest:List Oper} {o:Oper} {a:Act} {Q:Exit→Act→World→Prop} {w:World} (hgd:o.guard=none) (s x:Operand)
  (ho:o.op=.call { callee:=.builtin .append,args:=#[s,x],argTypes:=#[t,t] })
  (B:Nat) (v:Value) (xs:List α) (hs:a.eval s=v) (hown:Own e k enc w B v xs)
  (ao:Option Addr) (cap:Nat) (ys:List α) (hx:a.eval x=.slice ao ys.length cap) (hnone:ao=none→cap=0) (hr:Row k enc w ao ys)
  (h63:xs.length+ys.length≤1099511627776) (hB:B≤w.heap.size)
  (h:∀ v' w',Own e k enc w' B v' (xs ++ ys)→w.grownBy w' v.ownBlock→wpList Tryz.prog ops Q rest (a.put o.dst v') w'):wpList Tryz.prog ops Q (o :: rest) a w:=by
 obtain ⟨i0,hi,hz0,hz1,hz2⟩:=info_parts E.info
 rcases ao with _ | ad
 ·have hy:ys=[]:=by
   rcases hr with h | ⟨b,off,h,_⟩
   ·exact h
   ·cases h
  subst hy
  rw [hnone rfl] at hx
  refine wpList_append_own_none hgd s x t ho B e i0 k E.und hi v xs.length _ hs hown hx ?_
  refine h v w ?_ ⟨rfl,rfl,rfl,Nat.le_refl _,fun _ _ _=>rfl⟩
  rw [List.append_nil];exact hown
 ·refine wpList_append_own w hgd s x t ho B e i0 z k bytes E.und hi hz0 hz1 hz2 E.zk E.pos v xs.length _ hs hown ad ys.length cap (ys.flatMap enc) hx (flat_len hk) ?_ ?_ (by unfold maxLen;omega) ?_ hB ?_
  ·intro j u hj
   rcases hr with h | ⟨b,off,h,hlt,hc⟩
   ·subst h;simp at hj
   ·cases h
    have hjl:j<ys.length*k:=by rw [← flat_len hk];exact (List.getElem?_eq_some_iff.1 hj).1
    have hkp:=E.pos
    have hq:j / k<ys.length:=(Nat.div_lt_iff_lt_mul hkp).2 hjl
    have hm:j % k<k:=Nat.mod_lt _ hkp
    have hjd:j=j / k*k+j % k:=by rw [Nat.mul_comm];exact (Nat.div_add_mod j k).symm
    obtain ⟨y,hy⟩:∃ y,ys[j / k]? = some y:=⟨_,List.getElem?_eq_getElem hq⟩
    obtain ⟨u',hu'⟩:∃ u',(enc y)[j % k]? = some u':=⟨_,List.getElem?_eq_getElem (by rw [hk];exact hm)⟩
    have h2:=flat_at hk _ y hy _ u' hu'
    rw [← hjd,hj] at h2
    rw [Option.some.inj h2,add_at]
    have:=hc _ y hy _ u' hu'
    rw [← hjd] at this
    exact this
  ·intro u hu
   obtain ⟨y,_,hy⟩:=List.mem_flatMap.1 hu
   exact h1 y u hy
  ·have:=E.small
   have h2:(xs.length+ys.length)*bytes≤1099511627776*64:=Nat.mul_le_mul h63 this
   omega
  ·intro v' w' g1 g2 _
   refine h v' w' ?_ g2
   unfold Own
   rw [List.length_append,List.flatMap_append]
   exact g1
end
end Rw
namespace Ne

theorem retI {k:IntKind} {a b:Int} (h:a=b):Ending.returned (.int k a)=.returned (.int k b):=by rw [h]
theorem retB {a b:Bool} (h:a=b):Ending.returned (.bool a)=.returned (.bool b):=by rw [h]
def plainN (c:Int):Int:=if c<0 then -(c+1) else c
def pickN (c n:Int):Int:=plainN c % n
theorem pickN_bd {c n:Int} (hn:0<n):0≤pickN c n∧pickN c n<n:=by
 unfold pickN;exact ⟨Int.emod_nonneg _ (by omega),Int.emod_lt_of_pos _ hn⟩
end Ne
end Go.Proofs.YtoadkckceladgaaGreat
namespace Go.Proofs.YtoadkckceladgaaGreat
namespace Rg
section
variable {P:Program} {ops:Array Oper} {Q:Exit→Act→World→Prop} {md:Region.Mode} {S:World→Prop} {last:Nat}

def wpAnyE (P:Program) (md:Region.Mode) (ops:Array Oper) (Q:Exit→Act→World→Prop) (S:World→Prop) (last:Nat):Nat→Array Bool→Act→World→Prop
 | 0,listed,a,w=>Region.ready md ops listed=[]∧Q .normal a w
 | fuel+1,listed,a,w =>
  (Region.ready md ops listed=[]→Q .normal a w) ∧
  ∀ i∈Region.ready md ops listed,wpOp P ops Q i (fun a' w'=>(i≠last→S w')∧wpAnyE P md ops Q S last fuel (listed.setIfInBounds i true) a' w') a w

theorem wpAny_of_E:∀ (fuel:Nat) (listed:Array Bool) (a:Act) (w:World),wpAnyE P md ops Q S last fuel listed a w→wpAny P md ops Q fuel listed a w
 | 0,_,_,_,h=>h
 | fuel+1,_,_,_,h=>⟨h.1,fun i hi=>wpOp_mono (fun a' w' h'=>wpAny_of_E fuel _ a' w' h'.2) (h.2 i hi)⟩

def Closed (md:Region.Mode) (ops:Array Oper) (listed:Array Bool):Prop :=
 ∀ k ok,ops[k]? = some ok→listed.getD k false=true→∀ e∈ok.after,Region.binds md e=true→listed.getD e.on false=true

theorem closed_start (n:Nat):Closed md ops (Array.replicate n false):=by
 intro k ok _ h
 exfalso
 rw [Array.getD_eq_getD_getElem?,Array.getElem?_replicate] at h
 split at h <;> simp at h

theorem closed_ready {listed:Array Bool} {j:Nat} (h:Closed md ops listed) (hj:j∈Region.ready md ops listed):Closed md ops (listed.setIfInBounds j true):=by
 obtain ⟨_,oj,hoj,hall⟩:=mem_ready.1 hj
 intro k ok hk hl e he hb
 by_cases hjk:j=k
 ·subst hjk
  rw [hoj] at hk;cases hk
  exact getD_set_true (hall e he hb)
 ·rw [getD_set_ne false hjk] at hl
  exact getD_set_true (h k ok hk hl e he hb)

def waits (md:Region.Mode) (ops:Array Oper):Nat→Nat→Nat→Bool
 | 0,_,_=>false
 | n+1,k,i=>match ops[k]? with
  | none=>false
  | some ok=>ok.after.any fun e=>Region.binds md e && (e.on == i || waits md ops n e.on i)

theorem waits_listed {listed:Array Bool} (hc:Closed md ops listed) {i:Nat}:∀ (n k:Nat),waits md ops n k i=true →
  (∀ ok,ops[k]? = some ok→∀ e∈ok.after,Region.binds md e=true→listed.getD e.on false=true)→listed.getD i false=true
 | 0,_,h,_=>by simp [waits] at h
 | n+1,k,h,hd=>by
  unfold waits at h
  cases hk:ops[k]? with
  | none=>rw [hk] at h;simp at h
  | some ok =>
   rw [hk] at h
   simp only [Array.any_eq_true'] at h
   obtain ⟨e,he,hb⟩:=h
   simp only [Bool.and_eq_true,Bool.or_eq_true,beq_iff_eq] at hb
   have hl:=hd ok hk e he hb.1
   rcases hb.2 with h1 | h1
   ·rw [← h1];exact hl
   ·exact waits_listed hc n e.on h1 (fun o2 ho2 e2 he2 hb2=>hc e.on o2 ho2 hl e2 he2 hb2)

theorem not_last {listed:Array Bool} {i j n:Nat} (hc:Closed md ops listed) (hw:waits md ops n last i=true) (hi:i∈Region.ready md ops listed) (hj:j∈Region.ready md ops listed):j≠last:=by
 rintro rfl
 obtain ⟨_,oj,hoj,hall⟩:=mem_ready.1 hj
 have h1:=waits_listed hc n j hw (fun ok hk e he hb=>by rw [hoj] at hk;cases hk;exact hall e he hb)
 have h0:=(mem_ready.1 hi).1
 rcases Nat.lt_or_ge i listed.size with h' | h'
 ·simp [h'] at h0 h1;rw [h0] at h1;cases h1
 ·simp [Array.getElem?_eq_none h'] at h1

theorem first {i:Nat} {oi:Oper} {v:Value} {n:Nat} (hi:ops[i]? = some oi) (hsel:∀ (j:Nat) (o:Oper) cs b,ops[j]? = some o→o.op≠.select cs b)
  (hQ:∀ c a w,Q (.panic c) (a.put oi.dst v) w→Q (.panic c) a w) (hw:waits md ops n last i=true) :
  ∀ (fuel:Nat) (listed:Array Bool) (a:Act) (w:World),
   (∀ j oj,ops[j]? = some oj→j≠i→listed.getD j true=false→(∀ e∈oj.after,Region.binds md e=true→e.on≠i)→oi.apart ops oj=true) →
   i∈Region.ready md ops listed→Closed md ops listed→YieldsIf P ops S oi v a→S w →
   wpAnyE P md ops Q S last fuel (listed.setIfInBounds i true) (a.put oi.dst v) w→wpAnyE P md ops Q S last (fuel+1) listed a w:=by
 intro fuel
 induction fuel with
 | zero =>
  intro listed a w _ hr _ hy hS H
  refine ⟨fun h=>(by rw [h] at hr;cases hr),fun j hj=>?_⟩
  by_cases hji:j=i
  ·subst hji;exact hy.wpOp hi hS ⟨fun _=>hS,H⟩
  ·have:=ready_mono hj hji
   rw [H.1] at this
   cases this
 | succ fuel ih =>
  intro listed a w hfree hr hc hy hS H
  refine ⟨fun h=>(by rw [h] at hr;cases hr),fun j hj=>?_⟩
  by_cases hji:j=i
  ·subst hji;exact hy.wpOp hi hS ⟨fun _=>hS,H⟩
  ·have h1:=H.2 j (ready_mono hj hji)
   have hnl:j≠last:=not_last hc hw hr hj
   obtain ⟨hjun,oj,hoj,hall⟩:=mem_ready.1 hj
   have hnot:∀ e∈oj.after,Region.binds md e=true→e.on≠i:=fun e he hb heq=>by
    have h1:=hall e he hb
    have h0:=(mem_ready.1 hr).1
    rw [heq] at h1
    rcases Nat.lt_or_ge i listed.size with h' | h'
    ·simp [h'] at h0 h1;rw [h0] at h1;cases h1
    ·simp [Array.getElem?_eq_none h'] at h1
   have h2:=wpOp_putIf hoj (hfree j oj hoj hji hjun hnot) (fun cs b=>hsel i oi cs b hi) (fun cs b=>hsel j oj cs b hoj) hQ hy h1
   have hfree':∀ k ok,ops[k]? = some ok→k≠i→(listed.setIfInBounds j true).getD k true=false →
     (∀ e∈ok.after,Region.binds md e=true→e.on≠i)→oi.apart ops ok=true:=fun k ok hk hki hun hno=>by
    refine hfree k ok hk hki ?_ hno
    by_cases hjk:j=k
    ·subst hjk;exact hjun
    ·rw [getD_set_ne true hjk] at hun;exact hun
   refine wpOp_mono (fun a' w' h3=>⟨fun _=>h3.2.1 hnl,ih (listed.setIfInBounds j true) a' w' hfree' (ready_mono hr (Ne.symm hji)) (closed_ready hc hj) h3.1 (h3.2.1 hnl) ?_⟩) h2
   rw [Array.setIfInBounds_comm _ _ hji]
   exact h3.2.2

def St (P:Program) (md:Region.Mode) (ops:Array Oper) (Q:Exit→Act→World→Prop) (S:World→Prop) (last fuel:Nat) (listed:Array Bool) (a:Act) (w:World):Prop :=
 Closed md ops listed→wpAnyE P md ops Q S last fuel listed a w

theorem take {i:Nat} {oi:Oper} {v:Value} {fuel:Nat} {listed:Array Bool} {a:Act} {w:World} (n:Nat) (hi:ops[i]? = some oi)
  (hs:Region.noSelect ops=true) (hf:Region.free md ops listed i=true) (hr:(Region.ready md ops listed).contains i=true) (hw:waits md ops n last i=true)
  (hQ:∀ c a w,Q (.panic c) (a.put oi.dst v) w→Q (.panic c) a w) (hy:YieldsIf P ops S oi v a) (hS:S w)
  (h:St P md ops Q S last fuel (listed.setIfInBounds i true) (a.put oi.dst v) w):St P md ops Q S last (fuel+1) listed a w:=fun hc =>
 first hi (Region.noSelect_spec hs) hQ hw fuel listed a w (Region.free_spec hi hf) (by simpa using hr) hc hy hS (h (closed_ready hc (by simpa using hr)))

theorem alone {i:Nat} {fuel:Nat} {listed:Array Bool} {a:Act} {w:World} (hr:Region.ready md ops listed=[i])
  (h:wpOp P ops Q i (fun a' w'=>(i≠last→S w')∧St P md ops Q S last fuel (listed.setIfInBounds i true) a' w') a w):St P md ops Q S last (fuel+1) listed a w:=by
 intro hc
 refine ⟨fun h0=>(by rw [hr] at h0;cases h0),fun j hj=>?_⟩
 have hc2:=closed_ready hc hj
 rw [hr] at hj
 simp at hj
 subst hj
 exact wpOp_mono (fun a' w' h3=>⟨h3.1,h3.2 hc2⟩) h

theorem step {i:Nat} {o:Oper} {fuel:Nat} {listed:Array Bool} {a:Act} {w:World} (hr:Region.ready md ops listed=[i]) (ho:ops[i]? = some o)
  (h:∀ K':Act→World→Prop,(∀ a' w',(i≠last→S w')∧St P md ops Q S last fuel (listed.setIfInBounds i true) a' w'→K' a' w') →
   if Region.wanted o (yielded ops a.tmps)=true then Oper.wp P o a w K' Q else K' (a.put o.dst undef) w):St P md ops Q S last (fuel+1) listed a w:=by
 refine alone hr ?_
 unfold wpOp
 simp only [ho]
 have h1:=h _ (fun a' w' h'=>h')
 split
 ·rename_i hw
  rw [if_pos hw] at h1
  exact .inl h1
 ·rename_i hw
  rw [if_neg hw] at h1
  exact h1

theorem finished {listed:Array Bool} {a:Act} {w:World} (hr:Region.ready md ops listed=[]) (h:Q .normal a w):∀ fuel,St P md ops Q S last fuel listed a w
 | 0,_=>⟨hr,h⟩
 | _+1,_=>⟨fun _=>h,by rw [hr];simp⟩

theorem start {id:Nat} {a:Act} {w:World} (hm:P.follows .mixedOrders=true)
  (h:St P .any ops Q S last ops.size (Array.replicate ops.size false) a w.drew):(Code.region id ops true).wp P Q a w :=
 wp_region_any hm (wpAny_of_E _ _ _ _ (h (closed_start _)))
end
end Rg
namespace Rh
section
variable {P:Program} {ops:Array Oper} {Q:Exit→Act→World→Prop} {md:Region.Mode} {S:World→Prop}
def St (P:Program) (md:Region.Mode) (ops:Array Oper) (Q:Exit→Act→World→Prop) (S:World→Prop) (fuel:Nat) (listed:Array Bool) (a:Act) (w:World):Prop:=wpAnyH P md ops Q S fuel listed a w
theorem take (dst:Option Tmp) {i:Nat} {oi:Oper} {v:Value} {fuel:Nat} {listed:Array Bool} {a:Act} {w:World} (hi:ops[i]? = some oi) (hd:(ops[i]?.map (·.dst)).getD none=dst)
  (hs:Region.noSelect ops=true) (hf:Region.free md ops listed i=true) (hr:(Region.ready md ops listed).contains i=true)
  (hQ:∀ c a w,Q (.panic c) (a.put dst v) w→Q (.panic c) a w) (hy:YieldsIf P ops S oi v a) (hS:S w)
  (h:St P md ops Q S fuel (listed.setIfInBounds i true) (a.put dst v) w):St P md ops Q S (fuel+1) listed a w:=by
 rw [hi] at hd
 simp only [Option.map_some,Option.getD_some] at hd
 subst hd
 exact wpAnyH_take hi hs hf hr hQ hy hS h
theorem step {i:Nat} {o:Oper} {fuel:Nat} {listed:Array Bool} {a:Act} {w:World} (hr:Region.ready md ops listed=[i]) (ho:ops[i]? = some o)
  (h:∀ K':Act→World→Prop,(∀ a' w',S w'∧St P md ops Q S fuel (listed.setIfInBounds i true) a' w'→K' a' w') →
   if Region.wanted o (yielded ops a.tmps)=true then Oper.wp P o a w K' Q else K' (a.put o.dst undef) w):St P md ops Q S (fuel+1) listed a w :=
 wpAnyH_ready hr (by simp) (AllReadyH.cons ho (fun K' hK=>h K' fun a' w' ⟨h1,h2⟩=>hK.out a' w' h1 fun _=>h2) AllReadyH.nil)
theorem two {i j:Nat} {oi oj:Oper} {fuel:Nat} {listed:Array Bool} {a:Act} {w:World} (hr:Region.ready md ops listed=[i,j]) (hi:ops[i]? = some oi) (hj:ops[j]? = some oj)
  (h1:∀ K':Act→World→Prop,(∀ a' w',S w'∧St P md ops Q S fuel (listed.setIfInBounds i true) a' w'→K' a' w') →
   if Region.wanted oi (yielded ops a.tmps)=true then Oper.wp P oi a w K' Q else K' (a.put oi.dst undef) w)
  (h2:∀ K':Act→World→Prop,(∀ a' w',S w'∧St P md ops Q S fuel (listed.setIfInBounds j true) a' w'→K' a' w') →
   if Region.wanted oj (yielded ops a.tmps)=true then Oper.wp P oj a w K' Q else K' (a.put oj.dst undef) w):St P md ops Q S (fuel+1) listed a w :=
 wpAnyH_ready hr (by simp) (AllReadyH.cons hi (fun K' hK=>h1 K' fun a' w' ⟨h3,h4⟩=>hK.out a' w' h3 fun _=>h4) (AllReadyH.cons hj (fun K' hK=>h2 K' fun a' w' ⟨h3,h4⟩=>hK.out a' w' h3 fun _=>h4) AllReadyH.nil))
theorem done {listed:Array Bool} {a:Act} {w:World} (hr:Region.ready md ops listed=[]) (h:Q .normal a w) (fuel:Nat):St P md ops Q S fuel listed a w:=wpAnyH_done hr h fuel
theorem start {id:Nat} {a:Act} {w:World} (hm:P.follows .mixedOrders=true)
  (h:St P .any ops Q S ops.size (Array.replicate ops.size false) a w.drew):(Code.region id ops true).wp P Q a w:=wp_region_held hm h
end
end Rh
namespace Rh
section
variable {P:Program} {ops:Array Oper} {Q:Exit→Act→World→Prop} {md:Region.Mode} {S:World→Prop}
theorem three {i j k:Nat} {oi oj ok:Oper} {fuel:Nat} {listed:Array Bool} {a:Act} {w:World} (hr:Region.ready md ops listed=[i,j,k]) (hi:ops[i]? = some oi) (hj:ops[j]? = some oj) (hk:ops[k]? = some ok)
  (h1:∀ K':Act→World→Prop,(∀ a' w',S w'∧St P md ops Q S fuel (listed.setIfInBounds i true) a' w'→K' a' w') →
   if Region.wanted oi (yielded ops a.tmps)=true then Oper.wp P oi a w K' Q else K' (a.put oi.dst undef) w)
  (h2:∀ K':Act→World→Prop,(∀ a' w',S w'∧St P md ops Q S fuel (listed.setIfInBounds j true) a' w'→K' a' w') →
   if Region.wanted oj (yielded ops a.tmps)=true then Oper.wp P oj a w K' Q else K' (a.put oj.dst undef) w)
  (h3:∀ K':Act→World→Prop,(∀ a' w',S w'∧St P md ops Q S fuel (listed.setIfInBounds k true) a' w'→K' a' w') →
   if Region.wanted ok (yielded ops a.tmps)=true then Oper.wp P ok a w K' Q else K' (a.put ok.dst undef) w):St P md ops Q S (fuel+1) listed a w :=
 wpAnyH_ready hr (by simp) (AllReadyH.cons hi (fun K' hK=>h1 K' fun a' w' ⟨h4,h5⟩=>hK.out a' w' h4 fun _=>h5) (AllReadyH.cons hj (fun K' hK=>h2 K' fun a' w' ⟨h4,h5⟩=>hK.out a' w' h4 fun _=>h5) (AllReadyH.cons hk (fun K' hK=>h3 K' fun a' w' ⟨h4,h5⟩=>hK.out a' w' h4 fun _=>h5) AllReadyH.nil)))
end
end Rh
namespace Rg
section
variable {P:Program} {ops:Array Oper} {Q:Exit→Act→World→Prop} {md:Region.Mode} {S:World→Prop} {last:Nat}
theorem tk {i:Nat} {oi:Oper} {v:Value} {fuel:Nat} {listed:Array Bool} {a:Act} {w:World} (n:Nat) (hi:ops[i]? = some oi)
  (hy:YieldsIf P ops S oi v a) (hS:S w) (h:St P md ops Q S last fuel (listed.setIfInBounds i true) (a.put oi.dst v) w)
  (hs:Region.noSelect ops=true:=by kernel_rfl) (hf:Region.free md ops listed i=true:=by kernel_rfl) (hr:(Region.ready md ops listed).contains i=true:=by kernel_rfl) (hw:waits md ops n last i=true:=by kernel_rfl)
  (hQ:∀ c a w,Q (.panic c) (a.put oi.dst v) w→Q (.panic c) a w:=by exact fun _ _ _ h=>h):St P md ops Q S last (fuel+1) listed a w:=take n hi hs hf hr hw hQ hy hS h
end
end Rg
namespace Rh
section
variable {P:Program} {ops:Array Oper} {Q:Exit→Act→World→Prop} {md:Region.Mode} {S:World→Prop}
theorem tk (dst:Option Tmp) {i:Nat} {oi:Oper} {v:Value} {fuel:Nat} {listed:Array Bool} {a:Act} {w:World} (hi:ops[i]? = some oi)
  (hy:YieldsIf P ops S oi v a) (hS:S w) (h:St P md ops Q S fuel (listed.setIfInBounds i true) (a.put dst v) w) (hd:(ops[i]?.map (·.dst)).getD none=dst:=by kernel_rfl)
  (hs:Region.noSelect ops=true:=by kernel_rfl) (hf:Region.free md ops listed i=true:=by kernel_rfl) (hr:(Region.ready md ops listed).contains i=true:=by kernel_rfl)
  (hQ:∀ c a w,Q (.panic c) (a.put dst v) w→Q (.panic c) a w:=by exact fun _ _ _ h=>h):St P md ops Q S (fuel+1) listed a w:=take dst hi hd hs hf hr hQ hy hS h
end
theorem q1 {α:Type _} (l:List α) (i:Nat) (a:α):l.toArray.setIfInBounds i a=(l.set i a).toArray:=List.setIfInBounds_toArray l i a
theorem q2 {α:Type _} {x:α} {xs:List α} {a:α}:(x :: xs).set 0 a=a :: xs:=List.set_cons_zero
theorem q3 {α:Type _} {x:α} {xs:List α} {i:Nat} {a:α}:(x :: xs).set (i+1) a=x :: xs.set i a:=List.set_cons_succ
end Rh
namespace Rh
theorem tp {P:Program} {ops:Array Oper} {Q:Exit→Act→World→Prop} {md:Region.Mode} {S:World→Prop} {oi:Oper} {v:Value} {fuel:Nat} {listed l':Array Bool} {a a':Act} {w:World} (t:Tmp) (i:Nat) (hS:S w)
  (h:St P md ops Q S fuel l' a' w)
  (hi:ops[i]? = some oi:=by exact rfl) (hg:Region.wanted oi (yielded ops a.tmps)=true:=by rfl)
  (hy:∃ x,(∀ w,S w→(execOp a.eval oi).run P w=.ok (.value x) w)∧x=v:=by refine ⟨?_,?_,?_⟩;rotate_left;· { intro w hSw;go_simp;try with_reducible rfl };· exact rfl)
  (hl:listed.setIfInBounds i true=l':=by (try simp only [Rh.q1,Rh.q2,Rh.q3]);exact rfl)
  (ha:a.put (some t) v=a':=by (try simp only [Act.put,Rh.q1,Rh.q2,Rh.q3]);exact rfl)
  (hd:(ops[i]?.map (·.dst)).getD none=some t:=by kernel_rfl)
  (hs:Region.noSelect ops=true:=by kernel_rfl) (hf:Region.free md ops listed i=true:=by kernel_rfl) (hr:(Region.ready md ops listed).contains i=true:=by kernel_rfl)
  (hQ:∀ c a w,Q (.panic c) (a.put (some t) v) w→Q (.panic c) a w:=by exact fun _ _ _ h=>h):St P md ops Q S (fuel+1) listed a w:=by
 obtain ⟨_,hy,rfl⟩:=hy;subst hl ha;exact tk (some t) hi (Or.inl ⟨hg,hy⟩) hS h hd hs hf hr hQ
theorem tu {P:Program} {ops:Array Oper} {Q:Exit→Act→World→Prop} {md:Region.Mode} {S:World→Prop} {oi:Oper} {fuel:Nat} {listed l':Array Bool} {a a':Act} {w:World} (t:Tmp) (i:Nat) (hS:S w)
  (h:St P md ops Q S fuel l' a' w)
  (hi:ops[i]? = some oi:=by exact rfl) (hg:Region.wanted oi (yielded ops a.tmps)=false:=by rfl)
  (hl:listed.setIfInBounds i true=l':=by (try simp only [Rh.q1,Rh.q2,Rh.q3]);exact rfl)
  (ha:a.put (some t) undef=a':=by (try simp only [Act.put,Rh.q1,Rh.q2,Rh.q3]);exact rfl)
  (hd:(ops[i]?.map (·.dst)).getD none=some t:=by kernel_rfl)
  (hs:Region.noSelect ops=true:=by kernel_rfl) (hf:Region.free md ops listed i=true:=by kernel_rfl) (hr:(Region.ready md ops listed).contains i=true:=by kernel_rfl)
  (hQ:∀ c a w,Q (.panic c) (a.put (some t) undef) w→Q (.panic c) a w:=by exact fun _ _ _ h=>h):St P md ops Q S (fuel+1) listed a w:=by
 subst hl ha;exact tk (some t) hi (Or.inr ⟨hg,rfl⟩) hS h hd hs hf hr hQ
end Rh
namespace Rg
theorem tp {P:Program} {ops:Array Oper} {Q:Exit→Act→World→Prop} {md:Region.Mode} {S:World→Prop} {last:Nat} {oi:Oper} {v:Value} {fuel:Nat} {listed l':Array Bool} {a a':Act} {w:World} (n:Nat) (i:Nat) (hS:S w)
  (h:St P md ops Q S last fuel l' a' w)
  (hi:ops[i]? = some oi:=by exact rfl) (hg:Region.wanted oi (yielded ops a.tmps)=true:=by rfl)
  (hy:∃ x,(∀ w,S w→(execOp a.eval oi).run P w=.ok (.value x) w)∧x=v:=by refine ⟨?_,?_,?_⟩;rotate_left;· { intro w hSw;go_simp;try with_reducible rfl };· exact rfl)
  (hl:listed.setIfInBounds i true=l':=by (try simp only [Rh.q1,Rh.q2,Rh.q3]);exact rfl)
  (ha:a.put oi.dst v=a':=by (try simp only [Act.put,Rh.q1,Rh.q2,Rh.q3]);exact rfl)
  (hs:Region.noSelect ops=true:=by kernel_rfl) (hf:Region.free md ops listed i=true:=by kernel_rfl) (hr:(Region.ready md ops listed).contains i=true:=by kernel_rfl) (hw:waits md ops n last i=true:=by kernel_rfl)
  (hQ:∀ c a w,Q (.panic c) (a.put oi.dst v) w→Q (.panic c) a w:=by exact fun _ _ _ h=>h):St P md ops Q S last (fuel+1) listed a w:=by
 obtain ⟨_,hy,rfl⟩:=hy;subst hl ha;exact tk n hi (Or.inl ⟨hg,hy⟩) hS h hs hf hr hw hQ
theorem tu {P:Program} {ops:Array Oper} {Q:Exit→Act→World→Prop} {md:Region.Mode} {S:World→Prop} {last:Nat} {oi:Oper} {fuel:Nat} {listed l':Array Bool} {a a':Act} {w:World} (n:Nat) (i:Nat) (hS:S w)
  (h:St P md ops Q S last fuel l' a' w)
  (hi:ops[i]? = some oi:=by exact rfl) (hg:Region.wanted oi (yielded ops a.tmps)=false:=by rfl)
  (hl:listed.setIfInBounds i true=l':=by (try simp only [Rh.q1,Rh.q2,Rh.q3]);exact rfl)
  (ha:a.put oi.dst undef=a':=by (try simp only [Act.put,Rh.q1,Rh.q2,Rh.q3]);exact rfl)
  (hs:Region.noSelect ops=true:=by kernel_rfl) (hf:Region.free md ops listed i=true:=by kernel_rfl) (hr:(Region.ready md ops listed).contains i=true:=by kernel_rfl) (hw:waits md ops n last i=true:=by kernel_rfl)
  (hQ:∀ c a w,Q (.panic c) (a.put oi.dst undef) w→Q (.panic c) a w:=by exact fun _ _ _ h=>h):St P md ops Q S last (fuel+1) listed a w:=by
 subst hl ha;exact tk n hi (Or.inr ⟨hg,rfl⟩) hS h hs hf hr hw hQ
end Rg
end Go.Proofs.YtoadkckceladgaaGreat
namespace Go.Proofs.YtoadkckceladgaaGreat
open Go.ChangeShapes Go.WideShapes Go.ChangeAt Go.RowKit
open Lib (hid)
namespace Rw
variable {α:Type} {e t:TypeId} {k bytes:Nat} {z:Value} {enc:α→List Value}
theorem appAt (E:Elem e t k bytes z) (hk:∀ x:α,(enc x).length=k) (h1:∀ x,∀ u∈enc x,u.oneCell' = true)
  {ops:Array Oper} {rest:List Oper} {o:Oper} {a:Act} {Q:Exit→Act→World→Prop} {w:World} (hgd:o.guard=none) (s x:Operand)
  (ho:o.op=.call { callee:=.builtin .append,args:=#[s,x],argTypes:=#[t,t] })
  (B:Nat) (v:Value) (xs:List α) (hs:a.eval s=v) (hown:Own e k enc w B v xs)
  (ad:Addr) (cap:Nat) (ys:List α) (hx:a.eval x=.slice (some ad) ys.length cap) (hr:Row k enc w (some ad) ys)
  (h63:xs.length+ys.length≤1099511627776) (hB:B≤w.heap.size)
  (h:∀ v' w',Own e k enc w' B v' (xs ++ ys)→w.grownBy w' v.ownBlock→(v'.ownBlock=v.ownBlock∨v'.ownBlock=some w.heap.size)→wpList Tryz.prog ops Q rest (a.put o.dst v') w'):wpList Tryz.prog ops Q (o :: rest) a w:=by
 obtain ⟨i0,hi,hz0,hz1,hz2⟩:=info_parts E.info
 refine wpList_append_own_at w hgd s x t ho B e i0 z k bytes E.und hi hz0 hz1 hz2 E.zk E.pos v xs.length _ hs hown ad ys.length cap (ys.flatMap enc) hx (flat_len hk) ?_ ?_ (by unfold maxLen;omega) ?_ hB ?_
 ·intro j u hj
  rcases hr with h | ⟨b,off,h,hlt,hc⟩
  ·subst h;simp at hj
  ·cases h
   have hjl:j<ys.length*k:=by rw [← flat_len hk];exact (List.getElem?_eq_some_iff.1 hj).1
   have hkp:=E.pos
   have hq:j / k<ys.length:=(Nat.div_lt_iff_lt_mul hkp).2 hjl
   have hm:j % k<k:=Nat.mod_lt _ hkp
   have hjd:j=j / k*k+j % k:=by rw [Nat.mul_comm];exact (Nat.div_add_mod j k).symm
   obtain ⟨y,hy⟩:∃ y,ys[j / k]? = some y:=⟨_,List.getElem?_eq_getElem hq⟩
   obtain ⟨u',hu'⟩:∃ u',(enc y)[j % k]? = some u':=⟨_,List.getElem?_eq_getElem (by rw [hk];exact hm)⟩
   have h2:=flat_at hk _ y hy _ u' hu'
   rw [← hjd,hj] at h2
   rw [Option.some.inj h2,add_at]
   have:=hc _ y hy _ u' hu'
   rw [← hjd] at this
   exact this
 ·intro u hu
  obtain ⟨y,_,hy⟩:=List.mem_flatMap.1 hu
  exact h1 y u hy
 ·have:=E.small
  have h2:(xs.length+ys.length)*bytes≤1099511627776*64:=Nat.mul_le_mul h63 this
  omega
 ·intro v' w' g1 g2 _ g4
  refine h v' w' ?_ g2 g4
  unfold Own
  rw [List.length_append,List.flatMap_append]
  exact g1
theorem own_grown {w w2:World} {B:Nat} {v:Value} {xs:List α} {row:Option Nat} (h:Own e k enc w B v xs) (hg:w.grownBy w2 row) (hne:∀ g,v.ownBlock=some g→some g≠row):Own e k enc w2 B v xs:=by
 obtain ⟨h1,h2⟩:=h
 refine ⟨h1,?_⟩
 rcases h2 with h2 | ⟨g,cap,cur,hv,hg2,hh,r⟩
 ·exact .inl h2
 ·exact .inr ⟨g,cap,cur,hv,hg2,by rw [hg.block g (lt_of_heap hh) (hne g (by rw [hv];rfl))];exact hh,r⟩
theorem owL {w:World} {B:Nat} {v:Value} {xs:List α} (h:Own e k enc w B v xs):∀ g,v.ownBlock=some g→B≤g∧g<w.heap.size:=by
 obtain ⟨h1,h2⟩:=h
 intro b hk
 rcases h2 with ⟨hv,hn⟩ | ⟨g,cap,cur,hv,hg,hh,_⟩
 ·rw [hv] at hk;simp [Value.ownBlock] at hk
 ·rw [hv] at hk;simp [Value.ownBlock] at hk;subst hk;exact ⟨hg,lt_of_heap hh⟩
theorem stepAt (E:Elem e t k bytes z) (hk:∀ x:α,(enc x).length=k) (h1:∀ x,∀ u∈enc x,u.oneCell' = true)
  {ops:Array Oper} {o:Oper} {a:Act} {K:Act→World→Prop} {Q:Exit→Act→World→Prop} {E':Prop} {w:World} (hgd:o.guard=none) (s x:Operand)
  (ho:o.op=.call { callee:=.builtin .append,args:=#[s,x],argTypes:=#[t,t] })
  (B:Nat) (v:Value) (xs:List α) (hs:a.eval s=v) (hown:Own e k enc w B v xs)
  (ad:Addr) (cap:Nat) (ys:List α) (n:Nat) (hn:n=ys.length) (hx:a.eval x=.slice (some ad) n cap) (hr:Row k enc w (some ad) ys)
  (h63:xs.length+ys.length≤1099511627776) (hB:B≤w.heap.size)
  (h:∀ v' w',Own e k enc w' B v' (xs ++ ys)→w.grownBy w' v.ownBlock→(v'.ownBlock=v.ownBlock∨v'.ownBlock=some w.heap.size)→K (a.put o.dst v') w') :
  if Region.wanted o (yielded ops a.tmps)=true then Oper.wp Tryz.prog o a w K Q else E':=by
 subst hn
 have hw:Region.wanted o (yielded ops a.tmps)=true:=by simp [Region.wanted,hgd]
 rw [if_pos hw]
 obtain ⟨i0,hi,hz0,hz1,hz2⟩:=info_parts E.info
 have hnews:∀ j u,(ys.flatMap enc)[j]? = some u→w.cell? (ad.add j)=some u:=by
  intro j u hj
  rcases hr with h | ⟨b,off,h,hlt,hc⟩
  ·subst h;simp at hj
  ·cases h
   have hjl:j<ys.length*k:=by rw [← flat_len hk];exact (List.getElem?_eq_some_iff.1 hj).1
   have hkp:=E.pos
   have hq:j / k<ys.length:=(Nat.div_lt_iff_lt_mul hkp).2 hjl
   have hm:j % k<k:=Nat.mod_lt _ hkp
   have hjd:j=j / k*k+j % k:=by rw [Nat.mul_comm];exact (Nat.div_add_mod j k).symm
   obtain ⟨y,hy⟩:∃ y,ys[j / k]? = some y:=⟨_,List.getElem?_eq_getElem hq⟩
   obtain ⟨u',hu'⟩:∃ u',(enc y)[j % k]? = some u':=⟨_,List.getElem?_eq_getElem (by rw [hk];exact hm)⟩
   have h2:=flat_at hk _ y hy _ u' hu'
   rw [← hjd,hj] at h2
   rw [Option.some.inj h2,add_at]
   have:=hc _ y hy _ u' hu'
   rw [← hjd] at this
   exact this
 have h2:(xs.length+ys.length)*bytes≤1099511627776*64:=Nat.mul_le_mul h63 E.small
 obtain ⟨v',w',hrn,g1,g2,g3,g4⟩:=run_append_own_at (P:=Tryz.prog) w B t o.type e i0 z k bytes E.und hi hz0 hz1 hz2 E.zk E.pos v xs.length _ hown ad ys.length cap (ys.flatMap enc) (flat_len hk) hnews
  (fun u hu=>by obtain ⟨y,_,hy⟩:=List.mem_flatMap.1 hu;exact h1 y u hy) (by unfold maxLen;omega) (by omega) hB
 unfold Oper.wp execOp
 simp only [ho,resolve,invoke,builtin,Sem.run_bind,Sem.run_pure,Result.andThen_ok,List.map_toArray,List.map_cons,List.map_nil,hs,hx,hrn]
 refine h v' w' ?_ g2 g4
 unfold Own
 rw [List.length_append,List.flatMap_append]
 exact g1
end Rw
namespace Ne
def encI (x:Int):List Value:=[.int .i64 x]
theorem eIl (x:Int):(encI x).length=1:=rfl
theorem eIo (x:Int):∀ u∈encI x,u.oneCell' = true:=by intro u hu;simp [encI] at hu;subst hu;rfl
theorem elemI:Rw.Elem 3 53 1 8 (.int .i64 0):=⟨by kernel_rfl,Tryz.underlying53,rfl,by decide,by decide⟩
abbrev IRow (w:World) (ao:Option Addr) (l:List Int):Prop:=Rw.Row 1 encI w ao l
abbrev OwnI (w:World) (B:Nat) (v:Value) (l:List Int):Prop:=Rw.Own 3 1 encI w B v l
def in64 (x:Int):Prop:=-9223372036854775808≤x∧x≤9223372036854775807
theorem irow_at {w:World} {b off:Nat} {l:List Int} (h:∀ (i:Nat) (x:Int),l[i]? = some x→∀ (j:Nat) (v:Value),(encI x)[j]? = some v→w.cell? ⟨b,off+(i*1+j),none⟩=some v) {i:Nat} {x:Int} (hi:l[i]? = some x) :
  w.cell? ⟨b,off+i,none⟩=some (.int .i64 x):=by
 have:=h i x hi 0 _ rfl;simpa using this

theorem irow_one (w:World) (x:Int):IRow (w.alloc (.cells #[.int .i64 x] 3)) (some ⟨w.heap.size,0,none⟩) [x]:=by
 refine .inr ⟨w.heap.size,0,rfl,by simp,?_⟩
 intro i y hi j v hv
 match i,hi with
 | 0,hi =>
  simp at hi;subst hi
  match j,hv with
  | 0,hv=>simp [encI] at hv;subst hv;exact World.cell?_alloc_new w _ _ 0
  | (j+1),hv=>simp [encI] at hv
 | (i+1),hi=>simp at hi

theorem take_succ_eq {α:Type} {a b:List α} {k:Nat} {x y:α} (h:a.take k=b.take k) (ha:a[k]? = some x) (hb:b[k]? = some y) (e:x=y):a.take (k+1)=b.take (k+1):=by
 rw [List.take_add_one,List.take_add_one,h,ha,hb,e]
theorem ne_at {α:Type} {a b:List α} {k:Nat} {x y:α} (ha:a[k]? = some x) (hb:b[k]? = some y) (e:x≠y):a≠b:=by
 intro h;rw [h,hb] at ha;exact e (Option.some.inj ha).symm

theorem below_drewN (w:World) (q:Nat):Below w.heap.size w (w.drewN q):=Rw.below_drewN w q

theorem held_grow {wr w1:World} {o:Obj} {row:Option Nat} (hg:(wr.alloc o).drew.grownBy w1 row) {a:Addr} (hne:row≠some a.block) {u:Value} (hu:wr.cell? a=some u):w1.cell? a=some u:=by
 have hlt:=World.block_lt_of_cell? wr a hu
 rw [hg.cell_far a (by show _<(wr.heap.push _).size;simp;omega) (Ne.symm hne)]
 exact (World.cell?_alloc_lt wr o a hlt).trans hu
theorem hdN {w:World} {o:Obj} {a:Addr} {u:Value} (hu:w.cell? a=some u):(w.alloc o).drew.cell? a=some u :=
 (World.cell?_alloc_lt w o a (World.block_lt_of_cell? w a hu)).trans hu
theorem held_set {w:World} {a:Addr} {u:Value} {p:Addr} {x:Value} (h:w.cell? a=some u) (hne:p.block≠a.block):(w.setCell p x).cell? a=some u :=
 (World.cell?_setCell_far w p a x hne).trans h
theorem own_empty {α:Type} {e:TypeId} {k:Nat} {enc:α→List Value} (w:World) (B:Nat) (hB:B≤w.heap.size):Rw.Own e k enc (w.alloc (.cells #[] e)) B (.slice (some ⟨w.heap.size,0,none⟩) 0 0) ([]:List α):=by
 refine ⟨by simp,.inr ⟨w.heap.size,0,#[],rfl,hB,?_,by simp,by simp [maxLen],by simp,by simp⟩⟩
 show (w.heap.push _)[w.heap.size]? = _
 simp
theorem own_put {α:Type} {e:TypeId} {k:Nat} {enc:α→List Value} (hk:∀ x,(enc x).length=k) {w:World} {B g cap:Nat} {xs:List α} {n:Nat} (h:Rw.Own e k enc w B (.slice (some ⟨g,0,none⟩) n cap) xs) {i:Nat} {x y:α} (hx:xs[i]? = some x) {j:Nat} (hj:j<k) {u:Value} (hy:enc y=(enc x).set j u) :
  Rw.Own e k enc (w.setCell ⟨g,i*k+j,none⟩ u) B (.slice (some ⟨g,0,none⟩) n cap) (xs.set i y):=by
 obtain ⟨h1,h2⟩:=h
 have hi:i<xs.length:=(List.getElem?_eq_some_iff.1 hx).1
 have hflat:(xs.set i y).flatMap enc=(xs.flatMap enc).set (i*k+j) u:=by
  clear h1 h2
  induction xs generalizing i with
  | nil=>simp at hi
  | cons z zs ih =>
   rcases i with _ | i
   ·simp at hx;subst hx
    simp only [List.set_cons_zero,List.flatMap_cons,hy,Nat.zero_mul,Nat.zero_add]
    rw [List.set_append,if_pos (by rw [hk];exact hj)]
   ·simp only [List.set_cons_succ,List.flatMap_cons]
    rw [ih (by simpa using hx) (by simpa using hi),List.set_append,if_neg (by rw [hk,Nat.succ_mul];omega),hk,show (i+1)*k+j-k=i*k+j by rw [Nat.succ_mul];omega]
 refine ⟨by rw [hflat,List.length_set,List.length_set];exact h1,?_⟩
 rcases h2 with ⟨hv,hn⟩ | ⟨g',cap',cur,hv,hg,hh,hc,hm,hs,ht⟩
 ·simp at hv
 ·simp only [Value.slice.injEq,Option.some.injEq,Addr.mk.injEq,and_true,true_and] at hv
  obtain ⟨rfl,rfl,rfl⟩:=hv
  refine .inr ⟨g,cap,cur.setIfInBounds (i*k+j) u,by rw [List.length_set],hg,?_,by rw [List.length_set];exact hc,hm,by rw [Array.size_setIfInBounds];exact hs,?_⟩
  ·simp only [World.setCell,Array.getElem?_modify,hh,if_true,Option.map_some]
   rfl
  ·rw [List.length_set,hflat,← ht,Array.toList_setIfInBounds,List.take_set]

theorem own_cells {α:Type} {e:TypeId} {k:Nat} {enc:α→List Value} (hk:∀ x,(enc x).length=k) {w:World} {B n cap:Nat} {ao:Option Addr} {xs:List α} (h:Rw.Own e k enc w B (.slice ao n cap) xs) {i:Nat} {x:α} (hx:xs[i]? = some x) :
  ∃ g,ao=some ⟨g,0,none⟩∧B≤g∧g<w.heap.size∧(∀ j v,(enc x)[j]? = some v→w.cell? ⟨g,i*k+j,none⟩=some v)∧∀ o,w.frozen? ⟨g,o,none⟩=false:=by
 have hi:i<xs.length:=(List.getElem?_eq_some_iff.1 hx).1
 obtain ⟨ao',cap',hv,_,_,_,hrow,hb,ha⟩:=Rw.owR hk h
 simp only [Value.slice.injEq] at hv
 obtain ⟨rfl,_,rfl⟩:=hv
 rcases hrow with h0 | ⟨b,off,rfl,hlt,hc⟩
 ·rw [h0] at hi;simp at hi
 obtain ⟨b',hb'⟩:=ha _ rfl
 cases hb'
 refine ⟨b,rfl,(hb b 0 rfl).1,hlt,fun j v hv=>by have:=hc i x hx j v hv;rwa [Nat.zero_add] at this,fun o=>?_⟩
 obtain ⟨_,h2⟩:=h
 rcases h2 with ⟨hv,_⟩ | ⟨g',cap2,cur,hv,hg,hh,_⟩
 ·simp at hv
 ·simp only [Value.slice.injEq,Option.some.injEq,Addr.mk.injEq,and_true,true_and] at hv
  obtain ⟨rfl,_⟩:=hv
  simp [World.frozen?,hh]
theorem bDr {B:Nat} {w w':World} (h:Below B w w'):Below B w w'.drew:=h.trans ⟨rfl,rfl,rfl,Nat.le_refl _,fun _ _=>rfl⟩
def amt (f:List Int) (i:Nat):Int:=f.getD i 0
theorem amt_of {f:List Int} {i:Nat} {x:Int} (h:f[i]? = some x):amt f i=x:=by simp [amt,h]
theorem at_amt {f:List Int} {i:Nat} (h:i<f.length):f[i]? = some (amt f i):=by simp [amt,h]
theorem amt_set {f:List Int} {j:Nat} (x:Int) (hj:j<f.length) (i:Nat):amt (f.set j x) i=if i=j then x else amt f i:=by
 unfold amt
 by_cases h:i=j
 ·subst h;simp [hj]
 ·rw [if_neg h];simp [List.getElem?_set_ne (Ne.symm h)]
theorem amt_out {f:List Int} {i:Nat} (h:f.length≤i):amt f i=0:=by simp [amt,h]
theorem ext_amt {f g:List Int} (hl:f.length=g.length) (h:∀ i,i<f.length→amt f i=amt g i):f=g:=by
 apply List.ext_getElem? ;intro i
 by_cases hi:i<f.length
 ·rw [at_amt hi,at_amt (hl▸hi),h i hi]
 ·rw [List.getElem?_eq_none (by omega),List.getElem?_eq_none (by omega)]
theorem infoL:(Tryz.prog.info? 2).map (fun i=>(i.zero,i.size,i.bytes))=some (some (.int .i64 0),1,8):=by kernel_rfl
theorem elemL:Rw.Elem 2 26 1 8 (.int .i64 0):=⟨by kernel_rfl,Tryz.underlying26,rfl,by decide,by decide⟩
abbrev OwnL (w:World) (B:Nat) (v:Value) (l:List Int):Prop:=Rw.Own 2 1 encI w B v l
theorem make_l (n:Nat) (h:n≤1000000) (w:World):(Instr.makeSlice 26 (.int .i64 (n:Int)) (.int .i64 (n:Int))).run Tryz.prog w=.ok (.slice (some ⟨w.heap.size,0,none⟩) n n) (w.alloc (.cells (madeCells #[.int .i64 0] n) 2)) :=
 run_make_row' 26 2 (.int .i64 0) 8 Tryz.underlying26 infoL rfl .i64 .i64 n (by omega) (by omega) w
theorem irC {w:World} {ao:Option Addr} {l:List Int} (h:IRow w ao l) {i:Nat} (hi:i<l.length):∃ b off,ao=some ⟨b,off,none⟩∧b<w.heap.size∧w.cell? ⟨b,off+i,none⟩=some (.int .i64 (amt l i)):=by
 rcases h with h | ⟨b,off,rfl,hlt,hc⟩
 ·subst h;simp at hi
 ·exact ⟨b,off,rfl,hlt,irow_at hc (at_amt hi)⟩
theorem bDn {B:Nat} {w w':World} (h:Below B w w') (q:Nat):Below B w (w'.drewN q):=h.trans ⟨rfl,rfl,rfl,Nat.le_refl _,fun _ _=>rfl⟩
theorem hdA {w:World} {o:Obj} {a:Addr} {u:Value} (hu:w.cell? a=some u):(w.alloc o).cell? a=some u :=
 (World.cell?_alloc_lt w o a (World.block_lt_of_cell? w a hu)).trans hu
def encW (l:List Nat):List Int:=l.map fun k:Nat=>(k:Int)
theorem eWl (l:List Nat):(encW l).length=l.length:=by simp [encW]
theorem encW_snoc (l:List Nat) (k:Nat):encW (l ++ [k])=encW l ++ [(k:Int)]:=by simp [encW]
theorem encW_at {l:List Nat} {i:Nat} (h:i<l.length):amt (encW l) i=((l.getD i 0:Nat):Int):=by simp [encW,amt,h]
theorem irow_one' (w:World) {b:Nat} (hb:b=w.heap.size) (x:Int) (T:TypeId):IRow (w.alloc (.cells #[.int .i64 x] T)) (some ⟨b,0,none⟩) [x]:=by
 subst hb
 refine .inr ⟨w.heap.size,0,rfl,by simp,?_⟩
 intro i y hi j v hv
 match i,hi with
 | 0,hi =>
  simp at hi;subst hi
  match j,hv with
  | 0,hv=>simp [encI] at hv;subst hv;exact World.cell?_alloc_new w _ _ 0
  | (j+1),hv=>simp [encI] at hv
 | (i+1),hi=>simp at hi

theorem owI {e:TypeId} {w:World} {B:Nat} {o:Option Addr} {n c:Nat} {l:List Int} (h:Rw.Own e 1 encI w B (.slice o n c) l):IRow w o l:=by
 obtain ⟨o2,c2,e2,_,_,_,hr,_,_⟩:=Rw.owR eIl h
 simp only [Value.slice.injEq] at e2
 rw [e2.1];exact hr
theorem owM {α:Type} {e:TypeId} {k:Nat} {enc:α→List Value} {w w2:World} {B:Nat} {v:Value} {xs:List α} (h:Rw.Own e k enc w B v xs) (hk:∀ g,v.ownBlock=some g→w2.heap[g]? = w.heap[g]?):Rw.Own e k enc w2 B v xs:=by
 obtain ⟨h1,h2⟩:=h
 refine ⟨h1,?_⟩
 rcases h2 with h2 | ⟨g,cap,cur,hv,hg2,hh,r⟩
 ·exact .inl h2
 ·exact .inr ⟨g,cap,cur,hv,hg2,by rw [hk g (by rw [hv];rfl)];exact hh,r⟩
structure But (b:Nat) (w w2:World):Prop where
 os:w2.os=w.os
 tape:w2.tape=w.tape
 output:w2.output=w.output
 size:w.heap.size≤w2.heap.size
 block:∀ k,k<w.heap.size→k≠b→w2.heap[k]? = w.heap[k]?
theorem But.trans {b:Nat} {w w2 w3:World} (h:But b w w2) (k:But b w2 w3):But b w w3 :=
 ⟨k.os.trans h.os,k.tape.trans h.tape,k.output.trans h.output,Nat.le_trans h.size k.size,fun i h1 h2=>(k.block i (Nat.lt_of_lt_of_le h1 h.size) h2).trans (h.block i h1 h2)⟩
theorem But.of_below {b:Nat} {w w2:World} (h:Below w.heap.size w w2):But b w w2:=⟨h.os,h.tape,h.output,h.size,fun k hk _=>h.block k hk⟩
theorem But.below {b B0:Nat} {w w2:World} (h:But b w w2) (h1:B0≤b) (h0:B0≤w.heap.size):Below B0 w w2:=⟨h.os,h.tape,h.output,h.size,fun k hk=>h.block k (by omega) (by omega)⟩
theorem But.set {b:Nat} {w w2:World} (h:But b w w2) (o:Nat) (v:Value):But b w (w2.setCell ⟨b,o,none⟩ v) :=
 ⟨h.os,h.tape,h.output,by have:=h.size;simpa [World.setCell] using this,fun k h1 h2=>(Below.heap_setCell _ _ _ _ h2).trans (h.block k h1 h2)⟩
theorem But.far {b:Nat} {w w2:World} (h:But b w w2) {p:Addr} (hp:w.heap.size≤p.block) (v:Value):But b w (w2.setCell p v) :=
 ⟨h.os,h.tape,h.output,by have:=h.size;simpa [World.setCell] using this,fun k h1 h2=>(Below.heap_setCell _ _ _ _ (by omega)).trans (h.block k h1 h2)⟩
theorem But.grown {b:Nat} {w w2 w3:World} {row:Option Nat} (h:But b w w2) (hg:w2.grownBy w3 row) (hr:∀ k,row=some k→w.heap.size≤k):But b w w3 :=
 ⟨hg.os.trans h.os,hg.tape.trans h.tape,hg.output.trans h.output,Nat.le_trans h.size hg.size,fun k h1 h2=>(hg.block k (Nat.lt_of_lt_of_le h1 h.size) (fun e=>by have:=hr k e.symm;omega)).trans (h.block k h1 h2)⟩
theorem But.then {b:Nat} {w w2 w3:World} (h:But b w w2) (k:Below w2.heap.size w2 w3):But b w w3:=h.trans (.of_below k)
theorem own_types {α β:Type} {e e2:TypeId} {k k2:Nat} {enc:α→List Value} {enc2:β→List Value} {w:World} {B B2:Nat} {v v2:Value} {xs:List α} {ys:List β} (hne:e≠e2) (h:Rw.Own e k enc w B v xs) (h2:Rw.Own e2 k2 enc2 w B2 v2 ys):∀ g,v.ownBlock=some g→v2.ownBlock≠some g:=by
 intro g hg hg2
 obtain ⟨_,h⟩:=h
 obtain ⟨_,h2⟩:=h2
 rcases h with ⟨hv,_⟩ | ⟨b,c,cur,hv,_,hh,_⟩
 ·rw [hv] at hg;simp [Value.ownBlock] at hg
 rcases h2 with ⟨hv2,_⟩ | ⟨b2,c2,cur2,hv2,_,hh2,_⟩
 ·rw [hv2] at hg2;simp [Value.ownBlock] at hg2
 rw [hv] at hg;rw [hv2] at hg2
 simp [Value.ownBlock] at hg hg2
 subst hg;subst hg2
 rw [hh] at hh2
 simp at hh2
 exact hne hh2.2
def RowOf (w:World) (lo hi:Nat) (x:Value) (u:List Nat):Prop :=
 ∃ A c,x=.slice A u.length c∧u.length≤c∧c≤maxLen∧(u=[]∨∃ b off,A=some ⟨b,off,none⟩∧lo≤b∧b<hi∧∀ i,i<u.length→w.cell? ⟨b,off+i,none⟩=some (.int .i64 ((u.getD i 0:Nat):Int)))
theorem RowOf.keep {w w2:World} {lo hi:Nat} {x:Value} {u:List Nat} (h:RowOf w lo hi x u) (hk:∀ b,lo≤b→b<hi→w2.heap[b]? = w.heap[b]?):RowOf w2 lo hi x u:=by
 obtain ⟨A,c,h1,h2,h3,h4⟩:=h
 refine ⟨A,c,h1,h2,h3,?_⟩
 rcases h4 with h4 | ⟨b,off,h5,h6,h7,h8⟩
 ·exact .inl h4
 ·exact .inr ⟨b,off,h5,h6,h7,fun i hi=>(World.cell?_of_block (w:=w) (hk b h6 h7)).trans (h8 i hi)⟩
theorem RowOf.of_own {w:World} {B:Nat} {x:Value} {u:List Nat} (h:OwnI w B x (encW u)):RowOf w B w.heap.size x u:=by
 obtain ⟨ao,cap,h1,h2,h3,h4,h5,h6,h7⟩:=Rw.owR eIl h
 rw [eWl] at h1 h2
 refine ⟨ao,cap,h1,h2,h3,?_⟩
 rcases h5 with h5 | ⟨b,off,rfl,hb,hc⟩
 ·exact .inl (by simpa [encW] using h5)
 ·refine .inr ⟨b,off,rfl,(h6 b off rfl).1,hb,fun i hi=>?_⟩
  have:=irow_at hc (i:=i) (x:=((u.getD i 0:Nat):Int)) (by rw [← encW_at hi];exact at_amt (by rw [eWl];exact hi))
  exact this
theorem RowOf.cut {w:World} {lo hi:Nat} {A:Option Addr} {m c:Nat} {u:List Nat} (h:RowOf w lo hi (.slice A m c) u) {i:Nat} (hiu:i<u.length) :
  RowOf w lo hi (.slice (if c=i+1 then A else A.map (·.add (i+1))) (m-(i+1)) (c-(i+1))) (u.drop (i+1)):=by
 obtain ⟨A',c',h1,h2,h3,h4⟩:=h
 simp only [Value.slice.injEq] at h1
 obtain ⟨rfl,rfl,rfl⟩:=h1
 refine ⟨_,_,by rw [List.length_drop],by rw [List.length_drop];omega,by omega,?_⟩
 by_cases e:u.drop (i+1)=[]
 ·exact .inl e
 ·rcases h4 with h4 | ⟨b,off,rfl,h6,h7,h8⟩
  ·rw [h4] at hiu;simp at hiu
  ·have hl:i+1<u.length:=by
    rcases Nat.lt_or_ge (i+1) u.length with h | h
    ·exact h
    ·exact absurd (List.drop_eq_nil_of_le h) e
   refine .inr ⟨b,off+(i+1),?_,h6,h7,fun j hj=>?_⟩
   ·rw [if_neg (by omega)];simp [Rw.add_at]
   ·rw [List.length_drop] at hj
    have:=h8 (i+1+j) (by omega)
    rw [show off+(i+1)+j=off+(i+1+j) by omega,this]
    simp [List.getD_eq_getElem?_getD,List.getElem?_drop]
theorem own_less {w:World} {B g m c:Nat} {l:List Int} {x:Int} (h:OwnI w B (.slice (some ⟨g,0,none⟩) m c) (l ++ [x])):OwnI w B (.slice (some ⟨g,0,none⟩) l.length c) l:=by
 obtain ⟨h1,h2⟩:=h
 rcases h2 with ⟨hv,_⟩ | ⟨g',cap,cur,hv,hg,hh,hc,hm,hs,ht⟩
 ·simp at hv
 ·simp only [Value.slice.injEq,Option.some.injEq,Addr.mk.injEq,and_true,true_and] at hv
  obtain ⟨rfl,hml,rfl⟩:=hv
  have hfl:∀ k:List Int,(k.flatMap encI).length=k.length:=fun k=>by rw [Rw.flat_len eIl];omega
  refine ⟨by rw [hfl];omega,.inr ⟨g,c,cur,rfl,hg,hh,by simp at hc;omega,hm,hs,?_⟩⟩
  have:=congrArg (List.take l.length) ht
  rw [List.take_take] at this
  simp only [List.length_append,List.length_singleton,Nat.mul_one] at this ⊢
  rw [Nat.min_eq_left (by omega)] at this
  rw [this,List.flatMap_append,List.take_left' (hfl l)]

theorem infoI:(Tryz.prog.info? 3).map (fun i=>(i.zero,i.size,i.bytes))=some (some (.int .i64 0),1,8):=by kernel_rfl
theorem make_i (n:Nat) (h:n≤1000000) (w:World):(Instr.makeSlice 53 (.int .i64 (n:Int)) (.int .i64 (n:Int))).run Tryz.prog w=.ok (.slice (some ⟨w.heap.size,0,none⟩) n n) (w.alloc (.cells (madeCells #[.int .i64 0] n) 3)) :=
 run_make_row' 53 3 (.int .i64 0) 8 Tryz.underlying53 infoI rfl .i64 .i64 n (by omega) (by omega) w
def LBox (w:World) (b:Nat) (l:List Int):Prop:=w.rowIs b 2 l.length fun i=>.int .i64 (amt l i)
section
variable {w w2:World} {b:Nat} {l:List Int}
theorem LBox.cell (h:LBox w b l) {i:Nat} (hi:i<l.length):w.cell? ⟨b,i,none⟩=some (.int .i64 (amt l i)):=World.rowIs.cell h hi
theorem LBox.frozen (h:LBox w b l) (i:Nat):w.frozen? ⟨b,i,none⟩=false:=World.rowIs.frozen h i
theorem LBox.lt (h:LBox w b l):b<w.heap.size:=World.rowIs.lt h
theorem LBox.set (h:LBox w b l) {i:Nat} (hi:i<l.length) (x:Int):LBox (w.setCell ⟨b,i,none⟩ (.int .i64 x)) b (l.set i x):=by
 have h2:=World.rowIs.congr (World.rowIs.set h i (.int .i64 x)) (g:=fun j=>.int .i64 (amt (l.set i x) j)) (fun j hj=>by
  show (if j=i then _ else _)=_
  rw [amt_set x hi j];split <;> rfl)
 unfold LBox;rw [List.length_set];exact h2
theorem LBox.far (h:LBox w b l) {p:Addr} (hp:b≠p.block) (v:Value):LBox (w.setCell p v) b l:=World.rowIs.setOther h hp v
theorem LBox.irow (h:LBox w b l):IRow w (some ⟨b,0,none⟩) l:=by
 refine .inr ⟨b,0,rfl,h.lt,fun i x hx j v hv=>?_⟩
 have hi:i<l.length:=(List.getElem?_eq_some_iff.1 hx).1
 match j,hv with
 | 0,hv =>
  simp [encI] at hv;subst hv
  have:=h.cell hi
  rw [amt_of hx] at this
  simpa using this
 | (j+1),hv=>simp [encI] at hv
end
theorem lbox_made (w:World) (n:Nat) {b:Nat} (hb:b=w.heap.size):LBox (w.alloc (.cells (madeCells #[.int .i64 0] n) 2)) b (List.replicate n 0):=by
 subst hb
 unfold LBox;rw [List.length_replicate]
 exact (World.rowIs_made w (.int .i64 0) n 2).congr fun i hi=>by simp [amt,hi]
def IBox (w:World) (b:Nat) (l:List Int):Prop:=w.rowIs b 3 l.length fun i=>.int .i64 (amt l i)
section
variable {w w2:World} {b:Nat} {l:List Int}
theorem IBox.cell (h:IBox w b l) {i:Nat} (hi:i<l.length):w.cell? ⟨b,i,none⟩=some (.int .i64 (amt l i)):=World.rowIs.cell h hi
theorem IBox.frozen (h:IBox w b l) (i:Nat):w.frozen? ⟨b,i,none⟩=false:=World.rowIs.frozen h i
theorem IBox.lt (h:IBox w b l):b<w.heap.size:=World.rowIs.lt h
theorem IBox.below {B:Nat} (h:IBox w b l) (hb:Below B w w2) (hB:b<B):IBox w2 b l:=World.rowIs.of_block h (hb.block b hB)
theorem IBox.kept (h:IBox w b l) (hb:Below w.heap.size w w2):IBox w2 b l:=h.below hb h.lt
theorem IBox.set (h:IBox w b l) {i:Nat} (hi:i<l.length) (x:Int):IBox (w.setCell ⟨b,i,none⟩ (.int .i64 x)) b (l.set i x):=by
 have h2:=World.rowIs.congr (World.rowIs.set h i (.int .i64 x)) (g:=fun j=>.int .i64 (amt (l.set i x) j)) (fun j hj=>by
  show (if j=i then _ else _)=_
  rw [amt_set x hi j];split <;> rfl)
 unfold IBox;rw [List.length_set];exact h2
theorem IBox.far (h:IBox w b l) {p:Addr} (hp:b≠p.block) (v:Value):IBox (w.setCell p v) b l:=World.rowIs.setOther h hp v
theorem IBox.alloc (h:IBox w b l) (o:Obj):IBox (w.alloc o) b l:=World.rowIs.alloc h o
theorem IBox.irow (h:IBox w b l):IRow w (some ⟨b,0,none⟩) l:=by
 refine .inr ⟨b,0,rfl,h.lt,fun i x hx j v hv=>?_⟩
 have hi:i<l.length:=(List.getElem?_eq_some_iff.1 hx).1
 match j,hv with
 | 0,hv =>
  simp [encI] at hv;subst hv
  have:=h.cell hi
  rw [amt_of hx] at this
  simpa using this
 | (j+1),hv=>simp [encI] at hv
end
theorem ibox_made (w:World) (n:Nat) {b:Nat} (hb:b=w.heap.size):IBox (w.alloc (.cells (madeCells #[.int .i64 0] n) 3)) b (List.replicate n 0):=by
 subst hb
 unfold IBox;rw [List.length_replicate]
 exact (World.rowIs_made w (.int .i64 0) n 3).congr fun i hi=>by simp [amt,hi]
theorem IBox.list {w:World} {b:Nat} {l:List Int} (h:IBox w b l):w.heap[b]? = some (.cells (l.map (Value.int .i64)).toArray 3 (0,0)):=by
 obtain ⟨c,hb,hn,hc⟩:=h
 have:c=(l.map (Value.int .i64)).toArray:=by
  apply Array.ext
  ·simp [hn]
  ·intro i h1 h2
   have h3:=hc i (by omega)
   rw [Array.getElem?_eq_getElem h1] at h3
   have h4:=Option.some.inj h3
   rw [h4]
   simp at h2
   simp [amt,h2]
 rw [hb,this]
theorem IBox.of_list {w:World} {b:Nat} {l:List Int} (h:w.heap[b]? = some (.cells (l.map (Value.int .i64)).toArray 3 (0,0))):IBox w b l:=⟨_,h,by simp,fun i hi=>by simp [amt,hi]⟩
section
variable {w w2:World} {b:Nat}
theorem IBox.same {l:List Int} (h:IBox w b l) (e:w2.heap[b]? = w.heap[b]?):IBox w2 b l:=World.rowIs.of_block h e
end
theorem nodup_len:∀ {L:Nat} {R:List Nat},R.Nodup→(∀ k∈R,k<L)→R.length≤L
 | 0,R,_,h=>by
  rcases R with _ | ⟨k,R⟩
  ·simp
  ·exact absurd (h k List.mem_cons_self) (by omega)
 | L+1,R,hn,h=>by
  by_cases hm:L∈R
  ·have h1:=nodup_len (L:=L) (R:=R.erase L) (hn.erase L) fun k hk=>by
    obtain ⟨h2,h3⟩:=(List.Nodup.mem_erase_iff hn).1 hk
    have:=h k h3;omega
   rw [List.length_erase_of_mem hm] at h1;omega
  ·have h1:=nodup_len (L:=L) hn fun k hk=>by
    have:=h k hk
    have:k≠L:=fun e=>hm (e▸hk)
    omega
   omega
end Ne
end Go.Proofs.YtoadkckceladgaaGreat
