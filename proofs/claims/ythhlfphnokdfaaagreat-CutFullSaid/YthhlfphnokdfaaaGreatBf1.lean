/-
  Rowk, Pick, End
-/
import Derived.Test.YthhlfphnokdfaaaGreatRows
import Derived.WalkKit
import Derived.ProofKit
import Derived.Below
import Derived.OpenShut
import Derived.Lib.Hide
import Derived.Lib.Slices
import Derived.Laws.AppendOwn
import Derived.Laws.AppendOwnNone
import Derived.OwnWalk
import Derived.BigQuiet
import Derived.Deep.QuietTactic
import Derived.Lib.Small
import Derived.Lib.Walk
import Derived.WalkSpells
import Derived.WalkLawsBesides
import Derived.Deep.RegionHeld
import Derived.BigRegion
set_option linter.unusedVariables false
set_option linter.unusedSimpArgs false
set_option maxRecDepth 100000
set_option maxHeartbeats 4000000
namespace Go.Proofs.YthhlfphnokdfaaaGreat
open Go.ChangeShapes Go.WideShapes Go.ChangeAt Go.RowKit
open Lib (hid)
namespace Rw

theorem add_at (b off j:Nat):(⟨b,off,none⟩:Addr).add j=⟨b,off+j,none⟩:=by
 unfold Addr.add;by_cases h:j=0
 ·subst h;simp
 ·simp [h]
theorem heap_lt_of_cell {w:World} {b o:Nat} {v:Value} (h:w.cell? ⟨b,o,none⟩=some v):b<w.heap.size:=by
 rcases Nat.lt_or_ge b w.heap.size with hb | hb
 ·exact hb
 ·simp [World.cell?,Array.getElem?_eq_none hb] at h
theorem below_drewN (w:World) (q:Nat):Below w.heap.size w (w.drewN q):=⟨rfl,rfl,rfl,Nat.le_refl _,fun _ _=>rfl⟩

def Row {α:Type} (k:Nat) (enc:α→List Value) (w:World) (ao:Option Addr) (l:List α):Prop :=
 l=[]∨∃ b off,ao=some ⟨b,off,none⟩∧b<w.heap.size∧∀ (i:Nat) (x:α),l[i]? = some x→∀ (j:Nat) (v:Value),(enc x)[j]? = some v→w.cell? ⟨b,off+(i*k+j),none⟩=some v
theorem Row.kept {α:Type} {k:Nat} {enc:α→List Value} {w w2:World} {ao:Option Addr} {l:List α} (h:Row k enc w ao l) (hb:Below w.heap.size w w2):Row k enc w2 ao l:=by
 rcases h with h | ⟨b,off,rfl,hlt,hc⟩
 ·exact .inl h
 ·exact .inr ⟨b,off,rfl,Nat.lt_of_lt_of_le hlt hb.size,fun i x hx j v hv=>by rw [hb.cell (p:=⟨b,off+(i*k+j),none⟩) hlt];exact hc i x hx j v hv⟩
structure Elem (e t:TypeId) (k bytes:Nat) (z:Value):Prop where
 info:(Tryz.prog.info? e).map (fun i=>(i.zero,i.size,i.bytes))=some (some z,k,bytes)
 und:Tryz.prog.underlying t=some (.slice e)
 zk:z.cells.size=k
 pos:0<k
 small:bytes≤64

def Own {α:Type} (e:TypeId) (k:Nat) (enc:α→List Value) (w:World) (B:Nat) (v:Value) (xs:List α):Prop:=w.ownsRow B e k v xs.length (xs.flatMap enc)
section
variable {α:Type} {e t:TypeId} {k bytes:Nat} {z:Value} {enc:α→List Value}
theorem own_nil (w:World) (B:Nat):Own e k enc w B (.slice none 0 0) ([]:List α):=⟨by simp,.inl ⟨rfl,rfl⟩⟩
theorem own_block {w:World} {B:Nat} {v:Value} {xs:List α} (h:Own e k enc w B v xs):∀ b,v.ownBlock=some b→B≤b:=by
 obtain ⟨h1,h2⟩:=h
 intro b hk
 rcases h2 with ⟨hv,hn⟩ | ⟨g,cap,cur,hv,hg,_⟩
 ·rw [hv] at hk;simp [Value.ownBlock] at hk
 ·rw [hv] at hk;simp [Value.ownBlock] at hk;omega
theorem lt_of_heap {w:World} {g:Nat} {o:Obj} (h:w.heap[g]? = some o):g<w.heap.size:=by
 rcases Nat.lt_or_ge g w.heap.size with h2 | h2
 ·exact h2
 ·rw [Array.getElem?_eq_none h2] at h;cases h
theorem own_below {w w2:World} {B:Nat} {v:Value} {xs:List α} (h:Own e k enc w B v xs) (hb:Below w.heap.size w w2):Own e k enc w2 B v xs:=by
 obtain ⟨h1,h2⟩:=h
 refine ⟨h1,?_⟩
 rcases h2 with h2 | ⟨g,cap,cur,hv,hg,hh,r⟩
 ·exact .inl h2
 ·exact .inr ⟨g,cap,cur,hv,hg,by rw [hb.block g (lt_of_heap hh)];exact hh,r⟩
theorem own_alloc {w:World} {B:Nat} {v:Value} {xs:List α} (h:Own e k enc w B v xs) (o:Obj):Own e k enc (w.alloc o) B v xs :=
 own_below h ((Below.refl _ _).alloc (Nat.le_refl _) o)
theorem own_set {w:World} {B:Nat} {v:Value} {xs:List α} (h:Own e k enc w B v xs) {p:Addr} (hp:v.ownBlock≠some p.block) (u:Value):Own e k enc (w.setCell p u) B v xs:=by
 obtain ⟨h1,h2⟩:=h
 refine ⟨h1,?_⟩
 rcases h2 with h2 | ⟨g,cap,cur,hv,hg,hh,r⟩
 ·exact .inl h2
 ·refine .inr ⟨g,cap,cur,hv,hg,?_,r⟩
  rw [Below.heap_setCell _ _ _ _ (fun he=>hp (by rw [hv,← he];rfl))];exact hh
theorem own_base {w:World} {B B':Nat} {v:Value} {xs:List α} (h:Own e k enc w B v xs) (hB:B'≤B):Own e k enc w B' v xs:=by
 obtain ⟨h1,h2⟩:=h
 refine ⟨h1,?_⟩
 rcases h2 with h2 | ⟨g,cap,cur,hv,hg,r⟩
 ·exact .inl h2
 ·exact .inr ⟨g,cap,cur,hv,by omega,r⟩
theorem flat_len {xs:List α} (hk:∀ x,(enc x).length=k):(xs.flatMap enc).length=xs.length*k:=by
 induction xs with
 | nil=>simp
 | cons x xs ih=>rw [List.flatMap_cons,List.length_append,ih,hk,List.length_cons,Nat.succ_mul];omega
theorem flat_at {xs:List α} (hk:∀ x,(enc x).length=k):∀ (i:Nat) (x:α),xs[i]? = some x→∀ (j:Nat) (v:Value),(enc x)[j]? = some v→(xs.flatMap enc)[i*k+j]? = some v:=by
 induction xs with
 | nil=>intro i x hx;simp at hx
 | cons y xs ih =>
  intro i x hx j v hv
  have hj:j<k:=by rw [← hk x];exact (List.getElem?_eq_some_iff.1 hv).1
  rcases i with _ | i
  ·simp at hx;subst hx
   rw [List.flatMap_cons,Nat.zero_mul,Nat.zero_add,List.getElem?_append_left (by rw [hk];exact hj)];exact hv
  ·have:=ih i x (by simpa using hx) j v hv
   rw [List.flatMap_cons,List.getElem?_append_right (by rw [hk,Nat.succ_mul];omega),hk,show (i+1)*k+j-k=i*k+j by rw [Nat.succ_mul];omega];exact this
theorem own_row {w:World} {B:Nat} {v:Value} {xs:List α} (hk:∀ x,(enc x).length=k) (h:Own e k enc w B v xs) :
  ∃ ao cap,v=.slice ao xs.length cap∧xs.length≤cap∧cap≤maxLen∧(ao=none→cap=0)∧Row k enc w ao xs∧(∀ b off,ao=some ⟨b,off,none⟩→B≤b∧b<w.heap.size)∧(∀ a,ao=some a→∃ b,a=⟨b,0,none⟩):=by
 obtain ⟨h1,h2⟩:=h
 rcases h2 with ⟨hv,hn⟩ | ⟨g,cap,cur,hv,hg,hh,hc,hm,hs,ht⟩
 ·exact ⟨none,0,by rw [hv,hn],by omega,by unfold maxLen;omega,fun _=>rfl,.inl (List.length_eq_zero_iff.1 hn),fun _ _ h=>(by cases h),fun _ h=>(by cases h)⟩
 ·refine ⟨some ⟨g,0,none⟩,cap,hv,hc,hm,fun h=>by (cases h),.inr ⟨g,0,rfl,lt_of_heap hh,?_⟩,fun b off h=>by cases h;exact ⟨hg,lt_of_heap hh⟩,fun a h=>by cases h;exact ⟨g,rfl⟩⟩
  intro i x hx j v hv
  have hi:i<xs.length:=(List.getElem?_eq_some_iff.1 hx).1
  have hj:j<k:=by rw [← hk x];exact (List.getElem?_eq_some_iff.1 hv).1
  have hlt:i*k+j<xs.length*k:=by
   have:(i+1)*k≤xs.length*k:=Nat.mul_le_mul_right k hi
   rw [Nat.succ_mul] at this;omega
  have e:cur[i*k+j]? = some v:=by
   have:=congrArg (fun l=>l[i*k+j]?) ht
   simp only [List.getElem?_take,Array.getElem?_toList] at this
   rw [if_pos hlt,flat_at hk i x hx j v hv] at this
   exact this
  simp [World.cell?,hh,e]

theorem app (E:Elem e t k bytes z) (hk:∀ x:α,(enc x).length=k) (h1:∀ x,∀ u∈enc x,u.oneCell' = true)
  {ops:Array Oper} {rest:List Oper} {o:Oper} {a:Act} {Q:Exit→Act→World→Prop} {w:World} (hgd:o.guard=none) (s x:Operand)
  (ho:o.op=.call { callee:=.builtin .append,args:=#[s,x],argTypes:=#[t,t] })
  (B:Nat) (v:Value) (xs:List α) (hs:a.eval s=v) (hown:Own e k enc w B v xs)
  (ao:Option Addr) (cap:Nat) (ys:List α) (hx:a.eval x=.slice ao ys.length cap) (hnone:ao=none→cap=0) (hr:Row k enc w ao ys)
  (h63:xs.length+ys.length≤1099511627776) (hB:B≤w.heap.size)
  (h:∀ v' w',Own e k enc w' B v' (xs ++ ys)→w.grownBy w' v.ownBlock→wpList Tryz.prog ops Q rest (a.put o.dst v') w'):wpList Tryz.prog ops Q (o :: rest) a w:=by
 obtain ⟨i0,hi,hz0,hz1,hz2⟩:=info_parts E.info
 rcases ao with _ | ad
 ·have hy:ys=[]:=by
   rcases hr with h | ⟨b,off,h,_⟩
   ·exact h
   ·cases h
  subst hy
  rw [hnone rfl] at hx
  refine wpList_append_own_none hgd s x t ho B e i0 k E.und hi v xs.length _ hs hown hx ?_
  refine h v w ?_ ⟨rfl,rfl,rfl,Nat.le_refl _,fun _ _ _=>rfl⟩
  rw [List.append_nil];exact hown
 ·refine wpList_append_own w hgd s x t ho B e i0 z k bytes E.und hi hz0 hz1 hz2 E.zk E.pos v xs.length _ hs hown ad ys.length cap (ys.flatMap enc) hx (flat_len hk) ?_ ?_ (by unfold maxLen;omega) ?_ hB ?_
  ·intro j u hj
   rcases hr with h | ⟨b,off,h,hlt,hc⟩
   ·subst h;simp at hj
   ·cases h
    have hjl:j<ys.length*k:=by rw [← flat_len hk];exact (List.getElem?_eq_some_iff.1 hj).1
    have hkp:=E.pos
    have hq:j / k<ys.length:=(Nat.div_lt_iff_lt_mul hkp).2 hjl
    have hm:j % k<k:=Nat.mod_lt _ hkp
    have hjd:j=j / k*k+j % k:=by rw [Nat.mul_comm];exact (Nat.div_add_mod j k).symm
    obtain ⟨y,hy⟩:∃ y,ys[j / k]? = some y:=⟨_,List.getElem?_eq_getElem hq⟩
    obtain ⟨u',hu'⟩:∃ u',(enc y)[j % k]? = some u':=⟨_,List.getElem?_eq_getElem (by rw [hk];exact hm)⟩
    have h2:=flat_at hk _ y hy _ u' hu'
    rw [← hjd,hj] at h2
    rw [Option.some.inj h2,add_at]
    have:=hc _ y hy _ u' hu'
    rw [← hjd] at this
    exact this
  ·intro u hu
   obtain ⟨y,_,hy⟩:=List.mem_flatMap.1 hu
   exact h1 y u hy
  ·have:=E.small
   have h2:(xs.length+ys.length)*bytes≤1099511627776*64:=Nat.mul_le_mul h63 this
   omega
  ·intro v' w' g1 g2 _
   refine h v' w' ?_ g2
   unfold Own
   rw [List.length_append,List.flatMap_append]
   exact g1
end
end Rw
namespace Ne

theorem retI {k:IntKind} {a b:Int} (h:a=b):Ending.returned (.int k a)=.returned (.int k b):=by rw [h]
theorem retB {a b:Bool} (h:a=b):Ending.returned (.bool a)=.returned (.bool b):=by rw [h]
def plainN (c:Int):Int:=if c<0 then -(c+1) else c
def pickN (c n:Int):Int:=plainN c % n
theorem pickN_bd {c n:Int} (hn:0<n):0≤pickN c n∧pickN c n<n:=by
 unfold pickN;exact ⟨Int.emod_nonneg _ (by omega),Int.emod_lt_of_pos _ hn⟩
theorem pick_any (c n:Int) (w:World) (h0:-9223372036854775808≤c) (h1:c≤9223372036854775807) (hn:0<n) (hn1:n≤9223372036854775807) :
  Calls Tryz.prog 21 #[.int .i64 c,.int .i64 n] w fun e w'=>e=.returned (.int .i64 (pickN c n))∧w=w':=by
 have hn0:(n == 0)=false:=by simp;omega
 by_cases hc:c<0
 ·have e:pickN c n=(-(c+1)) % n:=by unfold pickN plainN;rw [if_pos hc]
  have HE:=hid e
  have hx:0≤-(c+1):=by omega
  clear e
  go_enter Tryz.func21,Tryz.ntmps21
  go_wp2
  go_ret
  exact ⟨retI (by rw [HE.out,← Int.neg_tmod,Int.tmod_eq_emod_of_nonneg hx]),rfl⟩
 ·have e:pickN c n=c % n:=by unfold pickN plainN;rw [if_neg hc]
  have HE:=hid e
  clear e
  go_enter Tryz.func21,Tryz.ntmps21
  go_wp2
  go_ret
  exact ⟨retI HE.out.symm,rfl⟩
end Ne
end Go.Proofs.YthhlfphnokdfaaaGreat
namespace Go.Proofs.YthhlfphnokdfaaaGreat
namespace Rg
section
variable {P:Program} {ops:Array Oper} {Q:Exit→Act→World→Prop} {md:Region.Mode} {S:World→Prop} {last:Nat}

def wpAnyE (P:Program) (md:Region.Mode) (ops:Array Oper) (Q:Exit→Act→World→Prop) (S:World→Prop) (last:Nat):Nat→Array Bool→Act→World→Prop
 | 0,listed,a,w=>Region.ready md ops listed=[]∧Q .normal a w
 | fuel+1,listed,a,w =>
  (Region.ready md ops listed=[]→Q .normal a w) ∧
  ∀ i∈Region.ready md ops listed,wpOp P ops Q i (fun a' w'=>(i≠last→S w')∧wpAnyE P md ops Q S last fuel (listed.setIfInBounds i true) a' w') a w

theorem wpAny_of_E:∀ (fuel:Nat) (listed:Array Bool) (a:Act) (w:World),wpAnyE P md ops Q S last fuel listed a w→wpAny P md ops Q fuel listed a w
 | 0,_,_,_,h=>h
 | fuel+1,_,_,_,h=>⟨h.1,fun i hi=>wpOp_mono (fun a' w' h'=>wpAny_of_E fuel _ a' w' h'.2) (h.2 i hi)⟩

def Closed (md:Region.Mode) (ops:Array Oper) (listed:Array Bool):Prop :=
 ∀ k ok,ops[k]? = some ok→listed.getD k false=true→∀ e∈ok.after,Region.binds md e=true→listed.getD e.on false=true

theorem closed_start (n:Nat):Closed md ops (Array.replicate n false):=by
 intro k ok _ h
 exfalso
 rw [Array.getD_eq_getD_getElem?,Array.getElem?_replicate] at h
 split at h <;> simp at h

theorem closed_ready {listed:Array Bool} {j:Nat} (h:Closed md ops listed) (hj:j∈Region.ready md ops listed):Closed md ops (listed.setIfInBounds j true):=by
 obtain ⟨_,oj,hoj,hall⟩:=mem_ready.1 hj
 intro k ok hk hl e he hb
 by_cases hjk:j=k
 ·subst hjk
  rw [hoj] at hk;cases hk
  exact getD_set_true (hall e he hb)
 ·rw [getD_set_ne false hjk] at hl
  exact getD_set_true (h k ok hk hl e he hb)

def waits (md:Region.Mode) (ops:Array Oper):Nat→Nat→Nat→Bool
 | 0,_,_=>false
 | n+1,k,i=>match ops[k]? with
  | none=>false
  | some ok=>ok.after.any fun e=>Region.binds md e && (e.on == i || waits md ops n e.on i)

theorem waits_listed {listed:Array Bool} (hc:Closed md ops listed) {i:Nat}:∀ (n k:Nat),waits md ops n k i=true →
  (∀ ok,ops[k]? = some ok→∀ e∈ok.after,Region.binds md e=true→listed.getD e.on false=true)→listed.getD i false=true
 | 0,_,h,_=>by simp [waits] at h
 | n+1,k,h,hd=>by
  unfold waits at h
  cases hk:ops[k]? with
  | none=>rw [hk] at h;simp at h
  | some ok =>
   rw [hk] at h
   simp only [Array.any_eq_true'] at h
   obtain ⟨e,he,hb⟩:=h
   simp only [Bool.and_eq_true,Bool.or_eq_true,beq_iff_eq] at hb
   have hl:=hd ok hk e he hb.1
   rcases hb.2 with h1 | h1
   ·rw [← h1];exact hl
   ·exact waits_listed hc n e.on h1 (fun o2 ho2 e2 he2 hb2=>hc e.on o2 ho2 hl e2 he2 hb2)

theorem not_last {listed:Array Bool} {i j n:Nat} (hc:Closed md ops listed) (hw:waits md ops n last i=true) (hi:i∈Region.ready md ops listed) (hj:j∈Region.ready md ops listed):j≠last:=by
 rintro rfl
 obtain ⟨_,oj,hoj,hall⟩:=mem_ready.1 hj
 have h1:=waits_listed hc n j hw (fun ok hk e he hb=>by rw [hoj] at hk;cases hk;exact hall e he hb)
 have h0:=(mem_ready.1 hi).1
 rcases Nat.lt_or_ge i listed.size with h' | h'
 ·simp [h'] at h0 h1;rw [h0] at h1;cases h1
 ·simp [Array.getElem?_eq_none h'] at h1

theorem first {i:Nat} {oi:Oper} {v:Value} {n:Nat} (hi:ops[i]? = some oi) (hsel:∀ (j:Nat) (o:Oper) cs b,ops[j]? = some o→o.op≠.select cs b)
  (hQ:∀ c a w,Q (.panic c) (a.put oi.dst v) w→Q (.panic c) a w) (hw:waits md ops n last i=true) :
  ∀ (fuel:Nat) (listed:Array Bool) (a:Act) (w:World),
   (∀ j oj,ops[j]? = some oj→j≠i→listed.getD j true=false→(∀ e∈oj.after,Region.binds md e=true→e.on≠i)→oi.apart ops oj=true) →
   i∈Region.ready md ops listed→Closed md ops listed→YieldsIf P ops S oi v a→S w →
   wpAnyE P md ops Q S last fuel (listed.setIfInBounds i true) (a.put oi.dst v) w→wpAnyE P md ops Q S last (fuel+1) listed a w:=by
 intro fuel
 induction fuel with
 | zero =>
  intro listed a w _ hr _ hy hS H
  refine ⟨fun h=>(by rw [h] at hr;cases hr),fun j hj=>?_⟩
  by_cases hji:j=i
  ·subst hji;exact hy.wpOp hi hS ⟨fun _=>hS,H⟩
  ·have:=ready_mono hj hji
   rw [H.1] at this
   cases this
 | succ fuel ih =>
  intro listed a w hfree hr hc hy hS H
  refine ⟨fun h=>(by rw [h] at hr;cases hr),fun j hj=>?_⟩
  by_cases hji:j=i
  ·subst hji;exact hy.wpOp hi hS ⟨fun _=>hS,H⟩
  ·have h1:=H.2 j (ready_mono hj hji)
   have hnl:j≠last:=not_last hc hw hr hj
   obtain ⟨hjun,oj,hoj,hall⟩:=mem_ready.1 hj
   have hnot:∀ e∈oj.after,Region.binds md e=true→e.on≠i:=fun e he hb heq=>by
    have h1:=hall e he hb
    have h0:=(mem_ready.1 hr).1
    rw [heq] at h1
    rcases Nat.lt_or_ge i listed.size with h' | h'
    ·simp [h'] at h0 h1;rw [h0] at h1;cases h1
    ·simp [Array.getElem?_eq_none h'] at h1
   have h2:=wpOp_putIf hoj (hfree j oj hoj hji hjun hnot) (fun cs b=>hsel i oi cs b hi) (fun cs b=>hsel j oj cs b hoj) hQ hy h1
   have hfree':∀ k ok,ops[k]? = some ok→k≠i→(listed.setIfInBounds j true).getD k true=false →
     (∀ e∈ok.after,Region.binds md e=true→e.on≠i)→oi.apart ops ok=true:=fun k ok hk hki hun hno=>by
    refine hfree k ok hk hki ?_ hno
    by_cases hjk:j=k
    ·subst hjk;exact hjun
    ·rw [getD_set_ne true hjk] at hun;exact hun
   refine wpOp_mono (fun a' w' h3=>⟨fun _=>h3.2.1 hnl,ih (listed.setIfInBounds j true) a' w' hfree' (ready_mono hr (Ne.symm hji)) (closed_ready hc hj) h3.1 (h3.2.1 hnl) ?_⟩) h2
   rw [Array.setIfInBounds_comm _ _ hji]
   exact h3.2.2

def St (P:Program) (md:Region.Mode) (ops:Array Oper) (Q:Exit→Act→World→Prop) (S:World→Prop) (last fuel:Nat) (listed:Array Bool) (a:Act) (w:World):Prop :=
 Closed md ops listed→wpAnyE P md ops Q S last fuel listed a w

theorem take {i:Nat} {oi:Oper} {v:Value} {fuel:Nat} {listed:Array Bool} {a:Act} {w:World} (n:Nat) (hi:ops[i]? = some oi)
  (hs:Region.noSelect ops=true) (hf:Region.free md ops listed i=true) (hr:(Region.ready md ops listed).contains i=true) (hw:waits md ops n last i=true)
  (hQ:∀ c a w,Q (.panic c) (a.put oi.dst v) w→Q (.panic c) a w) (hy:YieldsIf P ops S oi v a) (hS:S w)
  (h:St P md ops Q S last fuel (listed.setIfInBounds i true) (a.put oi.dst v) w):St P md ops Q S last (fuel+1) listed a w:=fun hc =>
 first hi (Region.noSelect_spec hs) hQ hw fuel listed a w (Region.free_spec hi hf) (by simpa using hr) hc hy hS (h (closed_ready hc (by simpa using hr)))

theorem alone {i:Nat} {fuel:Nat} {listed:Array Bool} {a:Act} {w:World} (hr:Region.ready md ops listed=[i])
  (h:wpOp P ops Q i (fun a' w'=>(i≠last→S w')∧St P md ops Q S last fuel (listed.setIfInBounds i true) a' w') a w):St P md ops Q S last (fuel+1) listed a w:=by
 intro hc
 refine ⟨fun h0=>(by rw [hr] at h0;cases h0),fun j hj=>?_⟩
 have hc2:=closed_ready hc hj
 rw [hr] at hj
 simp at hj
 subst hj
 exact wpOp_mono (fun a' w' h3=>⟨h3.1,h3.2 hc2⟩) h

theorem step {i:Nat} {o:Oper} {fuel:Nat} {listed:Array Bool} {a:Act} {w:World} (hr:Region.ready md ops listed=[i]) (ho:ops[i]? = some o)
  (h:∀ K':Act→World→Prop,(∀ a' w',(i≠last→S w')∧St P md ops Q S last fuel (listed.setIfInBounds i true) a' w'→K' a' w') →
   if Region.wanted o (yielded ops a.tmps)=true then Oper.wp P o a w K' Q else K' (a.put o.dst undef) w):St P md ops Q S last (fuel+1) listed a w:=by
 refine alone hr ?_
 unfold wpOp
 simp only [ho]
 have h1:=h _ (fun a' w' h'=>h')
 split
 ·rename_i hw
  rw [if_pos hw] at h1
  exact .inl h1
 ·rename_i hw
  rw [if_neg hw] at h1
  exact h1

theorem finished {listed:Array Bool} {a:Act} {w:World} (hr:Region.ready md ops listed=[]) (h:Q .normal a w):∀ fuel,St P md ops Q S last fuel listed a w
 | 0,_=>⟨hr,h⟩
 | _+1,_=>⟨fun _=>h,by rw [hr];simp⟩

theorem start {id:Nat} {a:Act} {w:World} (hm:P.follows .mixedOrders=true)
  (h:St P .any ops Q S last ops.size (Array.replicate ops.size false) a w.drew):(Code.region id ops true).wp P Q a w :=
 wp_region_any hm (wpAny_of_E _ _ _ _ (h (closed_start _)))
end
end Rg
namespace Rh
section
variable {P:Program} {ops:Array Oper} {Q:Exit→Act→World→Prop} {md:Region.Mode} {S:World→Prop}
def St (P:Program) (md:Region.Mode) (ops:Array Oper) (Q:Exit→Act→World→Prop) (S:World→Prop) (fuel:Nat) (listed:Array Bool) (a:Act) (w:World):Prop:=wpAnyH P md ops Q S fuel listed a w
theorem take (dst:Option Tmp) {i:Nat} {oi:Oper} {v:Value} {fuel:Nat} {listed:Array Bool} {a:Act} {w:World} (hi:ops[i]? = some oi) (hd:(ops[i]?.map (·.dst)).getD none=dst)
  (hs:Region.noSelect ops=true) (hf:Region.free md ops listed i=true) (hr:(Region.ready md ops listed).contains i=true)
  (hQ:∀ c a w,Q (.panic c) (a.put dst v) w→Q (.panic c) a w) (hy:YieldsIf P ops S oi v a) (hS:S w)
  (h:St P md ops Q S fuel (listed.setIfInBounds i true) (a.put dst v) w):St P md ops Q S (fuel+1) listed a w:=by
 rw [hi] at hd
 simp only [Option.map_some,Option.getD_some] at hd
 subst hd
 exact wpAnyH_take hi hs hf hr hQ hy hS h
theorem step {i:Nat} {o:Oper} {fuel:Nat} {listed:Array Bool} {a:Act} {w:World} (hr:Region.ready md ops listed=[i]) (ho:ops[i]? = some o)
  (h:∀ K':Act→World→Prop,(∀ a' w',S w'∧St P md ops Q S fuel (listed.setIfInBounds i true) a' w'→K' a' w') →
   if Region.wanted o (yielded ops a.tmps)=true then Oper.wp P o a w K' Q else K' (a.put o.dst undef) w):St P md ops Q S (fuel+1) listed a w :=
 wpAnyH_ready hr (by simp) (AllReadyH.cons ho (fun K' hK=>h K' fun a' w' ⟨h1,h2⟩=>hK.out a' w' h1 fun _=>h2) AllReadyH.nil)
theorem two {i j:Nat} {oi oj:Oper} {fuel:Nat} {listed:Array Bool} {a:Act} {w:World} (hr:Region.ready md ops listed=[i,j]) (hi:ops[i]? = some oi) (hj:ops[j]? = some oj)
  (h1:∀ K':Act→World→Prop,(∀ a' w',S w'∧St P md ops Q S fuel (listed.setIfInBounds i true) a' w'→K' a' w') →
   if Region.wanted oi (yielded ops a.tmps)=true then Oper.wp P oi a w K' Q else K' (a.put oi.dst undef) w)
  (h2:∀ K':Act→World→Prop,(∀ a' w',S w'∧St P md ops Q S fuel (listed.setIfInBounds j true) a' w'→K' a' w') →
   if Region.wanted oj (yielded ops a.tmps)=true then Oper.wp P oj a w K' Q else K' (a.put oj.dst undef) w):St P md ops Q S (fuel+1) listed a w :=
 wpAnyH_ready hr (by simp) (AllReadyH.cons hi (fun K' hK=>h1 K' fun a' w' ⟨h3,h4⟩=>hK.out a' w' h3 fun _=>h4) (AllReadyH.cons hj (fun K' hK=>h2 K' fun a' w' ⟨h3,h4⟩=>hK.out a' w' h3 fun _=>h4) AllReadyH.nil))
theorem done {listed:Array Bool} {a:Act} {w:World} (hr:Region.ready md ops listed=[]) (h:Q .normal a w) (fuel:Nat):St P md ops Q S fuel listed a w:=wpAnyH_done hr h fuel
theorem start {id:Nat} {a:Act} {w:World} (hm:P.follows .mixedOrders=true)
  (h:St P .any ops Q S ops.size (Array.replicate ops.size false) a w.drew):(Code.region id ops true).wp P Q a w:=wp_region_held hm h
end
end Rh
namespace Rh
section
variable {P:Program} {ops:Array Oper} {Q:Exit→Act→World→Prop} {md:Region.Mode} {S:World→Prop}
theorem three {i j k:Nat} {oi oj ok:Oper} {fuel:Nat} {listed:Array Bool} {a:Act} {w:World} (hr:Region.ready md ops listed=[i,j,k]) (hi:ops[i]? = some oi) (hj:ops[j]? = some oj) (hk:ops[k]? = some ok)
  (h1:∀ K':Act→World→Prop,(∀ a' w',S w'∧St P md ops Q S fuel (listed.setIfInBounds i true) a' w'→K' a' w') →
   if Region.wanted oi (yielded ops a.tmps)=true then Oper.wp P oi a w K' Q else K' (a.put oi.dst undef) w)
  (h2:∀ K':Act→World→Prop,(∀ a' w',S w'∧St P md ops Q S fuel (listed.setIfInBounds j true) a' w'→K' a' w') →
   if Region.wanted oj (yielded ops a.tmps)=true then Oper.wp P oj a w K' Q else K' (a.put oj.dst undef) w)
  (h3:∀ K':Act→World→Prop,(∀ a' w',S w'∧St P md ops Q S fuel (listed.setIfInBounds k true) a' w'→K' a' w') →
   if Region.wanted ok (yielded ops a.tmps)=true then Oper.wp P ok a w K' Q else K' (a.put ok.dst undef) w):St P md ops Q S (fuel+1) listed a w :=
 wpAnyH_ready hr (by simp) (AllReadyH.cons hi (fun K' hK=>h1 K' fun a' w' ⟨h4,h5⟩=>hK.out a' w' h4 fun _=>h5) (AllReadyH.cons hj (fun K' hK=>h2 K' fun a' w' ⟨h4,h5⟩=>hK.out a' w' h4 fun _=>h5) (AllReadyH.cons hk (fun K' hK=>h3 K' fun a' w' ⟨h4,h5⟩=>hK.out a' w' h4 fun _=>h5) AllReadyH.nil)))
end
end Rh
namespace Rg
section
variable {P:Program} {ops:Array Oper} {Q:Exit→Act→World→Prop} {md:Region.Mode} {S:World→Prop} {last:Nat}
theorem tk {i:Nat} {oi:Oper} {v:Value} {fuel:Nat} {listed:Array Bool} {a:Act} {w:World} (n:Nat) (hi:ops[i]? = some oi)
  (hy:YieldsIf P ops S oi v a) (hS:S w) (h:St P md ops Q S last fuel (listed.setIfInBounds i true) (a.put oi.dst v) w)
  (hs:Region.noSelect ops=true:=by kernel_rfl) (hf:Region.free md ops listed i=true:=by kernel_rfl) (hr:(Region.ready md ops listed).contains i=true:=by kernel_rfl) (hw:waits md ops n last i=true:=by kernel_rfl)
  (hQ:∀ c a w,Q (.panic c) (a.put oi.dst v) w→Q (.panic c) a w:=by exact fun _ _ _ h=>h):St P md ops Q S last (fuel+1) listed a w:=take n hi hs hf hr hw hQ hy hS h
end
end Rg
namespace Rh
section
variable {P:Program} {ops:Array Oper} {Q:Exit→Act→World→Prop} {md:Region.Mode} {S:World→Prop}
theorem tk (dst:Option Tmp) {i:Nat} {oi:Oper} {v:Value} {fuel:Nat} {listed:Array Bool} {a:Act} {w:World} (hi:ops[i]? = some oi)
  (hy:YieldsIf P ops S oi v a) (hS:S w) (h:St P md ops Q S fuel (listed.setIfInBounds i true) (a.put dst v) w) (hd:(ops[i]?.map (·.dst)).getD none=dst:=by kernel_rfl)
  (hs:Region.noSelect ops=true:=by kernel_rfl) (hf:Region.free md ops listed i=true:=by kernel_rfl) (hr:(Region.ready md ops listed).contains i=true:=by kernel_rfl)
  (hQ:∀ c a w,Q (.panic c) (a.put dst v) w→Q (.panic c) a w:=by exact fun _ _ _ h=>h):St P md ops Q S (fuel+1) listed a w:=take dst hi hd hs hf hr hQ hy hS h
end
theorem q1 {α:Type _} (l:List α) (i:Nat) (a:α):l.toArray.setIfInBounds i a=(l.set i a).toArray:=List.setIfInBounds_toArray l i a
theorem q2 {α:Type _} {x:α} {xs:List α} {a:α}:(x :: xs).set 0 a=a :: xs:=List.set_cons_zero
theorem q3 {α:Type _} {x:α} {xs:List α} {i:Nat} {a:α}:(x :: xs).set (i+1) a=x :: xs.set i a:=List.set_cons_succ
end Rh
namespace Rh
theorem tp {P:Program} {ops:Array Oper} {Q:Exit→Act→World→Prop} {md:Region.Mode} {S:World→Prop} {oi:Oper} {v:Value} {fuel:Nat} {listed l':Array Bool} {a a':Act} {w:World} (t:Tmp) (i:Nat) (hS:S w)
  (h:St P md ops Q S fuel l' a' w)
  (hi:ops[i]? = some oi:=by exact rfl) (hg:Region.wanted oi (yielded ops a.tmps)=true:=by rfl)
  (hy:∃ x,(∀ w,S w→(execOp a.eval oi).run P w=.ok (.value x) w)∧x=v:=by refine ⟨?_,?_,?_⟩;rotate_left;· { intro w hSw;go_simp;try with_reducible rfl };· exact rfl)
  (hl:listed.setIfInBounds i true=l':=by (try simp only [Rh.q1,Rh.q2,Rh.q3]);exact rfl)
  (ha:a.put (some t) v=a':=by (try simp only [Act.put,Rh.q1,Rh.q2,Rh.q3]);exact rfl)
  (hd:(ops[i]?.map (·.dst)).getD none=some t:=by kernel_rfl)
  (hs:Region.noSelect ops=true:=by kernel_rfl) (hf:Region.free md ops listed i=true:=by kernel_rfl) (hr:(Region.ready md ops listed).contains i=true:=by kernel_rfl)
  (hQ:∀ c a w,Q (.panic c) (a.put (some t) v) w→Q (.panic c) a w:=by exact fun _ _ _ h=>h):St P md ops Q S (fuel+1) listed a w:=by
 obtain ⟨_,hy,rfl⟩:=hy;subst hl ha;exact tk (some t) hi (Or.inl ⟨hg,hy⟩) hS h hd hs hf hr hQ
theorem tu {P:Program} {ops:Array Oper} {Q:Exit→Act→World→Prop} {md:Region.Mode} {S:World→Prop} {oi:Oper} {fuel:Nat} {listed l':Array Bool} {a a':Act} {w:World} (t:Tmp) (i:Nat) (hS:S w)
  (h:St P md ops Q S fuel l' a' w)
  (hi:ops[i]? = some oi:=by exact rfl) (hg:Region.wanted oi (yielded ops a.tmps)=false:=by rfl)
  (hl:listed.setIfInBounds i true=l':=by (try simp only [Rh.q1,Rh.q2,Rh.q3]);exact rfl)
  (ha:a.put (some t) undef=a':=by (try simp only [Act.put,Rh.q1,Rh.q2,Rh.q3]);exact rfl)
  (hd:(ops[i]?.map (·.dst)).getD none=some t:=by kernel_rfl)
  (hs:Region.noSelect ops=true:=by kernel_rfl) (hf:Region.free md ops listed i=true:=by kernel_rfl) (hr:(Region.ready md ops listed).contains i=true:=by kernel_rfl)
  (hQ:∀ c a w,Q (.panic c) (a.put (some t) undef) w→Q (.panic c) a w:=by exact fun _ _ _ h=>h):St P md ops Q S (fuel+1) listed a w:=by
 subst hl ha;exact tk (some t) hi (Or.inr ⟨hg,rfl⟩) hS h hd hs hf hr hQ
end Rh
namespace Rg
theorem tp {P:Program} {ops:Array Oper} {Q:Exit→Act→World→Prop} {md:Region.Mode} {S:World→Prop} {last:Nat} {oi:Oper} {v:Value} {fuel:Nat} {listed l':Array Bool} {a a':Act} {w:World} (n:Nat) (i:Nat) (hS:S w)
  (h:St P md ops Q S last fuel l' a' w)
  (hi:ops[i]? = some oi:=by exact rfl) (hg:Region.wanted oi (yielded ops a.tmps)=true:=by rfl)
  (hy:∃ x,(∀ w,S w→(execOp a.eval oi).run P w=.ok (.value x) w)∧x=v:=by refine ⟨?_,?_,?_⟩;rotate_left;· { intro w hSw;go_simp;try with_reducible rfl };· exact rfl)
  (hl:listed.setIfInBounds i true=l':=by (try simp only [Rh.q1,Rh.q2,Rh.q3]);exact rfl)
  (ha:a.put oi.dst v=a':=by (try simp only [Act.put,Rh.q1,Rh.q2,Rh.q3]);exact rfl)
  (hs:Region.noSelect ops=true:=by kernel_rfl) (hf:Region.free md ops listed i=true:=by kernel_rfl) (hr:(Region.ready md ops listed).contains i=true:=by kernel_rfl) (hw:waits md ops n last i=true:=by kernel_rfl)
  (hQ:∀ c a w,Q (.panic c) (a.put oi.dst v) w→Q (.panic c) a w:=by exact fun _ _ _ h=>h):St P md ops Q S last (fuel+1) listed a w:=by
 obtain ⟨_,hy,rfl⟩:=hy;subst hl ha;exact tk n hi (Or.inl ⟨hg,hy⟩) hS h hs hf hr hw hQ
theorem tu {P:Program} {ops:Array Oper} {Q:Exit→Act→World→Prop} {md:Region.Mode} {S:World→Prop} {last:Nat} {oi:Oper} {fuel:Nat} {listed l':Array Bool} {a a':Act} {w:World} (n:Nat) (i:Nat) (hS:S w)
  (h:St P md ops Q S last fuel l' a' w)
  (hi:ops[i]? = some oi:=by exact rfl) (hg:Region.wanted oi (yielded ops a.tmps)=false:=by rfl)
  (hl:listed.setIfInBounds i true=l':=by (try simp only [Rh.q1,Rh.q2,Rh.q3]);exact rfl)
  (ha:a.put oi.dst undef=a':=by (try simp only [Act.put,Rh.q1,Rh.q2,Rh.q3]);exact rfl)
  (hs:Region.noSelect ops=true:=by kernel_rfl) (hf:Region.free md ops listed i=true:=by kernel_rfl) (hr:(Region.ready md ops listed).contains i=true:=by kernel_rfl) (hw:waits md ops n last i=true:=by kernel_rfl)
  (hQ:∀ c a w,Q (.panic c) (a.put oi.dst undef) w→Q (.panic c) a w:=by exact fun _ _ _ h=>h):St P md ops Q S last (fuel+1) listed a w:=by
 subst hl ha;exact tk n hi (Or.inr ⟨hg,rfl⟩) hS h hs hf hr hw hQ
end Rg
end Go.Proofs.YthhlfphnokdfaaaGreat
