/-
  Wkr, Tss
-/
import Derived.Test.YthhlfphnokdfaaaGreatBf17
import Derived.Test.YthhlfphnokdfaaaGreatBf31
import Derived.RegionTactic
import Derived.Deep.QuietTactic
import Derived.BigQuiet
import Derived.BigRegion
import Derived.Deep.LoopGhost
set_option linter.unusedVariables false
set_option linter.unusedSimpArgs false
set_option maxRecDepth 100000
set_option maxHeartbeats 4000000
namespace Go.Proofs.YthhlfphnokdfaaaGreat
open Go.ChangeShapes Go.WideShapes Go.ChangeAt Go.RowKit
open Lib (hid)
namespace Ne
structure WkC where
 o:Option Addr
 len:Nat
 cap:Nat
 am:Int
def encK (k:WkC):List Value:=[.slice k.o k.len k.cap,.int .i64 k.am]
theorem encK_len (k:WkC):(encK k).length=2:=rfl
theorem encK_one (k:WkC):∀ u∈encK k,u.oneCell' = true:=by intro u hu;simp [encK] at hu;rcases hu with h | h <;> (subst h;rfl)
theorem elemK:Rw.Elem 138 128 2 32 (.agg #[.slice none 0 0,.int .i64 0]):=⟨by kernel_rfl,Tryz.underlying128,rfl,by decide,by decide⟩
def WkR (e:TypeId) (w:World) (B:Nat) (v:Value) (Ws:List (List Nat × Int)):Prop :=
 ∃ Ks:List WkC,Rw.Own e 2 encK w B v Ks∧Ks.length=Ws.length∧∀ (i:Nat) (k:WkC) (p:List Nat × Int),Ks[i]? = some k→Ws[i]? = some p→OwnI w B (.slice k.o k.len k.cap) (encW p.1)∧k.am=p.2
section
variable {e:TypeId} {w w2:World} {B:Nat} {v:Value} {Ws:List (List Nat × Int)}
theorem wkr_nil (e:TypeId) (w:World) (B:Nat):WkR e w B (.slice none 0 0) []:=⟨[],Rw.own_nil _ _,rfl,fun i k p h=>by simp at h⟩
theorem WkR.same (h:WkR e w B v Ws) (hk:∀ g,B≤g→g<w.heap.size→w2.heap[g]? = w.heap[g]?):WkR e w2 B v Ws:=by
 obtain ⟨Ks,h1,h2,h3⟩:=h
 refine ⟨Ks,own_same h1 fun g hg=>hk g (Rw.own_lt h1 g hg).1 (Rw.own_lt h1 g hg).2,h2,fun i k p hi hp=>?_⟩
 obtain ⟨g1,g2⟩:=h3 i k p hi hp
 exact ⟨own_same g1 fun g hg=>hk g (Rw.own_lt g1 g hg).1 (Rw.own_lt g1 g hg).2,g2⟩
theorem WkR.kept (h:WkR e w B v Ws) (hb:Below w.heap.size w w2):WkR e w2 B v Ws:=h.same fun g _ hg=>hb.block g hg
theorem WkR.base {B':Nat} (h:WkR e w B v Ws) (hB:B'≤B):WkR e w B' v Ws:=by
 obtain ⟨Ks,h1,h2,h3⟩:=h
 exact ⟨Ks,Rw.own_base h1 hB,h2,fun i k p hi hp=>⟨Rw.own_base (h3 i k p hi hp).1 hB,(h3 i k p hi hp).2⟩⟩
theorem WkR.val (h:WkR e w B v Ws):∃ o c,v=.slice o Ws.length c∧Ws.length≤c∧c≤maxLen∧(o=none→c=0):=by
 obtain ⟨Ks,h1,h2,_⟩:=h
 obtain ⟨o,c,g1,g2,g3,g4,_⟩:=Rw.own_row encK_len h1
 rw [h2] at g1 g2
 exact ⟨o,c,g1,g2,g3,g4⟩
end
theorem wkr_snoc {e:TypeId} {w w2:World} {B:Nat} {v v2:Value} {Ws:List (List Nat × Int)} {Ks:List WkC} (hne:(3:TypeId)≠e) (h1:Rw.Own e 2 encK w B v Ks) (h2:Ks.length=Ws.length) (h3:∀ (i:Nat) (k:WkC) (p:List Nat × Int),Ks[i]? = some k→Ws[i]? = some p→OwnI w B (.slice k.o k.len k.cap) (encW p.1)∧k.am=p.2)
  (hg:w.grownBy w2 v.ownBlock) {k:WkC} (h4:Rw.Own e 2 encK w2 B v2 (Ks ++ [k])) {R:List Nat} {a:Int} (hR:OwnI w B (.slice k.o k.len k.cap) (encW R)) (ha:k.am=a):WkR e w2 B v2 (Ws ++ [(R,a)]):=by
 have keep:∀ {x:Value} {l:List Int},OwnI w B x l→OwnI w2 B x l:=fun hx=>own_same hx fun g hg2=>hg.block g (Rw.own_lt hx g hg2).2 fun e2=>own_types hne hx h1 g hg2 e2.symm
 refine ⟨Ks ++ [k],h4,by simp [h2],fun i k' p hi hp=>?_⟩
 rcases Nat.lt_trichotomy i Ks.length with c | c | c
 ·rw [List.getElem?_append_left c] at hi
  rw [List.getElem?_append_left (by omega)] at hp
  obtain ⟨g1,g2⟩:=h3 i k' p hi hp
  exact ⟨keep g1,g2⟩
 ·subst c
  rw [List.getElem?_append_right (Nat.le_refl _)] at hi
  rw [h2,List.getElem?_append_right (Nat.le_refl _)] at hp
  simp at hi hp
  subst hi;subst hp
  exact ⟨keep hR,ha⟩
 ·rw [List.getElem?_eq_none (by simp;omega)] at hi;cases hi
theorem cap_62 {n:Net} (hR:Right n) {r:Nat} (h:r<2*n.l.length):(arcAt n.l (r / 2)).cap≤4611686018427387903:=cap_topR hR (by omega)
structure BlkStep (n:Net) (TL:List Nat) (g:List Int) (x:Int) (RM:List Int) (U:Nat→List Nat) (R0:Nat) (R':List Nat) (a:Int) (g2:List Int):Prop where
 lt:∀ r∈R0 :: R',r<2*n.l.length
 nd:(R0 :: R').Nodup
 b64:∀ r∈R0 :: R',0≤amt RM r∧amt RM r≤4611686018427387904
 len:(R0 :: R').length≤1000000
 least:Least n.l g (R0 :: R') a
 a64:x≤a∧a≤4611686018427387904
 tr64:∀ y∈encW (R0 :: R'),in64 y
 pE:pushE n g (encW (R0 :: R')) a=0
 pV:pushV n g (encW (R0 :: R')) a=g2
 pN:pushN n.l g a (encW (R0 :: R'))=some g2
 flow:Okf n g2
 srch:Srch n TL g2 x (lessL RM a (R0 :: R')) U
 left:left n.l TL x g2<left n.l TL x g
 value:exc n.l g2 n.t=exc n.l g n.t+a
theorem first_walk {n:Net} {TL:List Nat} {L:List Int} (hL:Lds n.l L TL) {g:List Int} {x:Int} {R:List Nat} (h:FirstW n.l TL g x n.t n.s R):isWalk n (encW R)=true:=by
 unfold isWalk
 rw [wlk_at hL (firstW_wlk h)]
 simp
theorem blk_step {n:Net} (ck:checkN n=0) {TL:List Nat} {L:List Int} (hL:Lds n.l L TL) {g:List Int} {x:Int} (hx:1≤x) (hF:Okf n g) {RM:List Int} {U:Nat→List Nat} (hS:Srch n TL g x RM U) {R:List Nat} (h:FirstW n.l TL g x n.t n.s R) :
  ∃ R0 R' g2,R=R0 :: R'∧BlkStep n TL g x RM U R0 R' (minL RM (amt RM R0) (R0 :: R')) g2:=by
 have hR:=right_of ck
 have hne:=first_ne hR.ne h
 obtain ⟨R0,R',rfl⟩:∃ R0 R',R=R0 :: R':=by
  rcases R with _ | ⟨R0,R'⟩
  ·exact absurd rfl hne
  ·exact ⟨R0,R',rfl⟩
 have hw:=firstW_wlk h
 have hm:=wlk_mem hw
 have hle:=least_min hS fun r hr=>(hm r hr).1
 have hhalf:=wlk_nodup hL hw
 obtain ⟨a,ha⟩:∃ a,a=minL RM (amt RM R0) (R0 :: R'):=⟨_,rfl⟩
 rw [← ha] at hle
 obtain ⟨q,hq,e⟩:=hle.one
 have hqx:=(hm q hq).2
 have hlt:∀ r∈R0 :: R',r<2*n.l.length:=fun r hr=>hL.lt r (hm r hr).1
 have hrn:∀ r∈R0 :: R',0≤roomN n.l g r∧roomN n.l g r≤4611686018427387903:=fun r hr=>by
  have h1:=room_nn hF.wi (hlt r hr)
  have h2:=cap_62 hR (hlt r hr)
  omega
 obtain ⟨g2,hp,hg2,_⟩:=wlk_push hL hw hF.len hle.all
 have hiw:=first_walk hL h
 have ha1:1≤a:=by omega
 have hlen:(R0 :: R').length≤1000000:=by
  have h1:=nodup_len (L:=n.l.length) hhalf fun i hi=>by
   obtain ⟨r,hr,e2⟩:=List.mem_map.1 hi
   have:=hlt r hr
   omega
  rw [List.length_map] at h1
  have:=hR.len
  omega
 have hpE:pushE n g (encW (R0 :: R')) a=0:=by
  unfold pushE
  rw [if_neg (by simpa using hF.chk ck),hiw,if_neg (by simp),if_neg (by omega),hp]
  simp
 obtain ⟨hF2,hv⟩:=okf_push hR hF (by omega) hiw hp
 refine ⟨R0,R',g2,rfl,?_⟩
 rw [← ha]
 exact ⟨hlt,nodup_of_half hhalf,fun r hr=>by rw [hS.rm r (hm r hr).1];have:=hrn r hr;omega,hlen,hle,⟨by omega,by have:=hrn q hq;omega⟩,fun y hy=>by
   obtain ⟨r,hr,rfl⟩:∃ r∈R0 :: R',y=((r:Nat):Int):=by unfold encW at hy;obtain ⟨r,hr,e2⟩:=List.mem_map.1 hy;exact ⟨r,hr,e2.symm⟩
   have:=hlt r hr;have:=hR.len;unfold in64;omega,hpE,by unfold pushV;rw [if_neg (by rw [hpE];simp),hp];rfl,hp,hF2,srch_push hL hF.len hS hx h hle hp,left_step hL hw hF.len hx hle hp,hv⟩
theorem cloneL_any (l:List Int) (ao:Option Addr) (n cap:Nat) (w:World) (hn:n=l.length) (hr:IRow w ao l) (hl:l.length≤1000000) :
  Calls Tryz.prog 37 #[.slice ao n cap] w fun e w'=>∃ o c,e=.returned (.slice o n c)∧OwnL w' w.heap.size (.slice o n c) l∧Below w.heap.size w w':=by
 rcases l with _ | ⟨z,zs⟩
 ·simp only [List.length_nil] at hn
  subst hn
  have q:∀ (w:World) (a:Option Addr) (n c n' c':Nat),(binOp .eql 29 (.slice a n c) (.slice none n' c')).run Tryz.prog w=.ok (.bool a.isNone) w:=fun w a n c n' c'=>Lib.run_eql_slice_nil w _ _ a n c n' c' Tryz.underlying29
  rcases ao with _ | ad
  ·go_enter Tryz.func37,Tryz.ntmps37
   go_wp2
   go_ret
   exact ⟨none,0,rfl,Rw.own_nil _ _,Below.refl _ _⟩
  ·have HR:=hid (hr.kept ((Below.refl _ _).alloc (Nat.le_refl _) (.cells #[] 2)))
   clear hr hl
   go_enter Tryz.func37,Tryz.ntmps37
   go_wp2_with (at_builtin;refine Rw.app elemL encI_len encI_one rfl (.tmp 5) (.tmp 6) rfl w.heap.size _ ([]:List Int) rfl (own_empty w _ (Nat.le_refl _)) (some ad) cap ([]:List Int) rfl ?hnn HR.out (by simp) ?hB ?_;(case hnn=>(intro h;cases h));(case hB=>(simp));intro v2 w2 hown2 hgr2;have HO2:=hid hown2;have HB2:=hid (((Below.refl w.heap.size w).alloc (Nat.le_refl _) (.cells #[] 2)).grown hgr2 (by simp) (Rw.own_block (own_empty (α:=Int) (k:=1) (enc:=encI) (e:=2) w w.heap.size (Nat.le_refl _))));clear hown2 hgr2)
   go_ret
   have h:=HO2.out
   rw [List.nil_append] at h
   obtain ⟨o,c,h1,_,_,_,h2,_⟩:=Rw.own_row encI_len h
   rw [h1] at h
   exact ⟨o,c,by rw [h1];rfl,h,HB2.out⟩
 ·exact (clonel_any (z :: zs) ao n cap w hn hr hl (by simp)).mono fun e w' ⟨g,c,h1,h2,h3⟩=>⟨_,c,h1,h2,h3⟩
end Ne
namespace Ne
open Sp (Off Ext)
open Fo (Ft FoO fc)
theorem root_child {f:Ft} (h:Fo.Good f) {y k:Nat} (hd:Fo.Dp f.up y k):y<f.v.length→∀ v,Fo.root f y=some v→v=y∨∃ z,f.up z=some v:=by
 induction hd with
 | @top y h1 =>
  intro hy v hv
  rw [h.root_top hy h1] at hv
  cases hv
  exact .inl rfl
 | @step y u k h1 _ ih =>
  intro hy v hv
  rw [h.root_step hy h1] at hv
  rcases ih (h.lt y u hy h1) v hv with e | e
  ·subst e;exact .inr ⟨y,h1⟩
  ·exact .inr e
def BlockI (n:Net) (ao:Option Addr) (cap:Nat) (x:Int) (w0 w1:World) (sb lb ab pb cb p:Nat) (rv:Value) (lo hi B b1:Nat) (VA:Nat→Value) (TL:List Nat) (f0:List Int) (w':World) (c0 m H k gg:Nat) (sp:Bool):Prop :=
 ∃ gl Ws RL VS U S c f flo fhi,TsM n ao cap x w0 w1 sb lb ab pb cb p rv lo hi B b1 VA TL w' RL VS U S c f flo fhi∧Tre n TL gl x U f RL S∧Okf n gl∧BlkW n.l TL x n.s n.t f0 Ws gl∧(∀ y u,f.up y=some u→S.getD u false=false)∧f.v.length=m∧Ws.length=k∧c0+k≤c∧gg=H-c∧S.getD n.s.toNat false=sp ∧
  fhi+c+(fc m+1)*psi n TL gl x U f S (aheadN n TL)≤H
def BlockR (n:Net) (ao:Option Addr) (cap:Nat) (x:Int) (w0 w1:World) (sb lb ab pb cb p:Nat) (rv:Value) (lo hi B b1:Nat) (VA:Nat→Value) (TL:List Nat) (f0:List Int) (w':World) (c0 m H k:Nat):Prop :=
 ∃ gl Ws RL VS U S c f flo fhi,TsM n ao cap x w0 w1 sb lb ab pb cb p rv lo hi B b1 VA TL w' RL VS U S c f flo fhi∧Tre n TL gl x U f RL S∧Okf n gl∧IsBlk n.l TL f0 x n.s n.t Ws gl∧f.v.length=m∧Ws.length=k∧c0+k≤c∧fhi+c≤H
section
variable {n:Net} {ao:Option Addr} {cap:Nat} {x:Int} {w0 w1:World} {sb lb ab pb cb p:Nat} {rv:Value} {lo hi B b1:Nat} {VA:Nat→Value} {TL:List Nat}
variable {w w2:World} {RL:List Int} {VS:Nat→Value} {U:Nat→List Nat} {S:List Bool} {c:Nat} {f f2:Ft} {flo fhi flo2 fhi2:Nat} {m H:Nat} {g f0:List Int} {L:List Int} {A:Nat→Nat} {c0 k gg:Nat}
theorem blockI_grow {sp:Bool} (h:BlockI n ao cap x w0 w1 sb lb ab pb cb p rv lo hi B b1 VA TL f0 w c0 m H k gg sp) (hb:Below w.heap.size w w2):BlockI n ao cap x w0 w1 sb lb ab pb cb p rv lo hi B b1 VA TL f0 w2 c0 m H k gg sp:=by
 obtain ⟨gl,Ws,RL,VS,U,S,c,f,flo,fhi,M,r⟩:=h
 exact ⟨gl,Ws,RL,VS,U,S,c,f,flo,fhi,M.grow hb,r⟩
theorem block_end (hR:Right n) (h:BlockI n ao cap x w0 w1 sb lb ab pb cb p rv lo hi B b1 VA TL f0 w c0 m H k gg true):BlockR n ao cap x w0 w1 sb lb ab pb cb p rv lo hi B b1 VA TL f0 w c0 m H k:=by
 obtain ⟨gl,Ws,RL,VS,U,S,c,f,flo,fhi,M,T,hF,hB,hK,hm,hk,hc0,_,hs,hc⟩:=h
 have:=(T.dead _ hs).2
 rw [show ((n.s.toNat:Nat):Int)=n.s by have:=hR.s0;omega] at this
 exact ⟨gl,Ws,RL,VS,U,S,c,f,flo,fhi,M,T,hF,⟨hB,this⟩,hm,hk,hc0,by omega⟩
theorem block_round (hR:Right n) (hL:Lds n.l L TL) (hx:1≤x) (hTL:TL.length≤1000000) (hH2:H+(fc m+1)≤4611686018427387904) (h:BlockI n ao cap x w0 w1 sb lb ab pb cb p rv lo hi B b1 VA TL f0 w c0 m H k gg false) :
  ∃ RL VS U S c f flo fhi,TsM n ao cap x w0 w1 sb lb ab pb cb p rv lo hi B b1 VA TL w RL VS U S c f flo fhi∧c≤4611686018427387904 ∧
   ∀ w3,TsM n ao cap x w0 w1 sb lb ab pb cb p rv lo hi B b1 VA TL w3 RL VS U S (c+1) f flo fhi→Calls Tryz.prog 100 #[.pointer (some ⟨p,0,none⟩),.int .i64 n.s] w3 fun e w4=>∃ v:Nat,e=.returned (.int .i64 (v:Int))∧(∃ RL VS U S c f flo fhi,TsM n ao cap x w0 w1 sb lb ab pb cb p rv lo hi B b1 VA TL w4 RL VS U S c f flo fhi) ∧
    (((v:Int)=n.t∧Calls Tryz.prog 101 #[.pointer (some ⟨sb,0,none⟩)] w4 fun e w5=>∃ q:Nat,e=.returned (.int .i64 (q:Int))∧q≤1∧∃ gg2 sp2,gg2<gg∧BlockI n ao cap x w0 w1 sb lb ab pb cb p rv lo hi B b1 VA TL f0 w5 c0 m H (k+q) gg2 sp2) ∨
    ((v:Int)≠n.t∧Calls Tryz.prog 102 #[.pointer (some ⟨sb,0,none⟩),.int .i64 (v:Int)] w4 fun e w5=>∃ b,e=.returned (.bool b)∧(match b with
     | true=>∃ gg2 sp2,gg2<gg∧BlockI n ao cap x w0 w1 sb lb ab pb cb p rv lo hi B b1 VA TL f0 w5 c0 m H k gg2 sp2
     | false=>Calls Tryz.prog 103 #[.pointer (some ⟨sb,0,none⟩),.int .i64 (v:Int)] w5 fun e w6=>e=.returned (.tuple #[])∧∃ gg2 sp2,gg2<gg∧BlockI n ao cap x w0 w1 sb lb ab pb cb p rv lo hi B b1 VA TL f0 w6 c0 m H k gg2 sp2))):=by
 obtain ⟨gl,Ws,RL,VS,U,S,c,f,flo,fhi,M,T,hF,hB,hK,hm,hk,hc0,hgg,hsp,hc⟩:=h
 have hs0:=hR.s0
 have ht0:=hR.t0
 have hsn:n.s.toNat<n.n.toNat+1:=by have:=hR.s1;omega
 have hsf:n.s.toNat<f.v.length:=by rw [T.len];exact hsn
 refine ⟨RL,VS,U,S,c,f,flo,fhi,M,by omega,fun w3 M3=>(M3.root hm n.s).mono ?_⟩
 rintro e w4 ⟨rfl,flo4,M4⟩
 obtain ⟨v,v1,v2,v3,v4⟩:=T.good.rootZ_eq hsf
 rw [show ((n.s.toNat:Nat):Int)=n.s by omega] at v2
 rw [v2]
 refine ⟨v,rfl,⟨_,_,_,_,_,_,_,_,M4⟩,?_⟩
 have hvn:v<n.n.toNat+1:=by rw [← T.len];exact v3
 by_cases hvt:(v:Int)=n.t
 ·left
  refine ⟨hvt,(fill_any2 M4 T hR hL hx hF (by rw [v1];exact congrArg some (by omega)) hm (aheadN n TL)).mono ?_⟩
  rintro e w5 ⟨q,rfl,g2,f2,RL2,flo2,fhi2,M5,T5,hup,hm2,hc2,hq⟩
  have hK2:∀ y u,f2.up y=some u→S.getD u false=false:=fun y u hy=>hK y u (hup y u hy)
  rcases hq with ⟨rfl,rfl⟩ | ⟨rfl,R,a,q1,q2,q3⟩
  ·exact ⟨0,rfl,by omega,_,_,by omega,g2,Ws,RL2,VS,U,S,c+1,f2,flo2,fhi2,M5,T5,hF,hB,hK2,hm2,hk,by omega,rfl,rfl,by omega⟩
  ·have hF2:Okf n g2:=(okf_push hR hF (by
    obtain ⟨r,hr,e⟩:=q2.one
    have:=(wlk_mem (firstW_wlk q1) r hr).2
    omega) (first_walk hL q1) q3).1
   exact ⟨1,rfl,by omega,_,_,by omega,g2,Ws ++ [(R,a)],RL2,VS,U,S,c+1,f2,flo2,fhi2,M5,T5,hF2,blkW_snoc hB q1 q2 q3,hK2,hm2,by simp [hk],by omega,rfl,rfl,by omega⟩
 ·right
  have hvt2:v≠n.t.toNat:=fun c=>hvt (by omega)
  have hvs:S.getD v false=false:=by
   obtain ⟨kd,hd⟩:=T.good.dep _ hsf
   rcases root_child T.good hd hsf v v1 with e | ⟨z,e⟩
   ·rw [e];exact hsp
   ·exact hK z v e
  refine ⟨hvt,(hang_any (H:=H+(fc m+1)) M4 T hR hL hF hvn hvt2 v4 hK hm (by omega) hH2).mono ?_⟩
  rintro e w5 ⟨b,rfl,hr⟩
  refine ⟨b,rfl,?_⟩
  cases b with
  | true =>
   obtain ⟨VS2,U2,c2,f2,flo2,fhi2,M5,T5,hm2,hK2,hc2,hcc⟩:=hr
   exact ⟨_,_,by omega,gl,Ws,RL,VS2,U2,S,c2,f2,flo2,fhi2,M5,T5,hF,hB,hK2,hm2,hk,by omega,rfl,rfl,by omega⟩
  | false =>
   obtain ⟨VS2,U2,c2,M5,T5,hU5,hc2,hcc⟩:=hr
   refine (leave_any (H:=H+(fc m+1)) M5 T5 hR hL hF hvn hvt2 hU5 hvs hK hm hcc hH2 hTL).mono ?_
   rintro e w6 ⟨rfl,f2,RL2,flo2,fhi2,c3,M6,T6,hm2,hK2,hc3,hcc3⟩
   exact ⟨rfl,_,_,by omega,gl,Ws,RL2,VS2,U2,_,c3,f2,flo2,fhi2,M6,T6,hF,hB,hK2,hm2,hk,by omega,rfl,rfl,by omega⟩
theorem block_any (hR:Right n) (hL:Lds n.l L TL) (hx:1≤x) (hTL:TL.length≤1000000) (hH2:H+(fc m+1)≤4611686018427387904) {sp:Bool} (h:BlockI n ao cap x w0 w1 sb lb ab pb cb p rv lo hi B b1 VA TL f0 w c0 m H 0 gg sp) :
  Calls Tryz.prog 96 #[.pointer (some ⟨sb,0,none⟩)] w fun e w'=>∃ k:Nat,e=.returned (.int .i64 (k:Int))∧BlockR n ao cap x w0 w1 sb lb ab pb cb p rv lo hi B b1 VA TL f0 w' c0 m H k:=by
 have HI0:=hid (fun q=>blockI_grow h (below_dn (Below.refl _ _) q))
 have HRD:=hid (fun w' k gg (h:BlockI n ao cap x w0 w1 sb lb ab pb cb p rv lo hi B b1 VA TL f0 w' c0 m H k gg false)=>block_round hR hL hx hTL hH2 h)
 have HED:=hid (fun w' k gg (h:BlockI n ao cap x w0 w1 sb lb ab pb cb p rv lo hi B b1 VA TL f0 w' c0 m H k gg true)=>block_end hR h)
 have HD:=hid (fun w' RL VS U S c f' flo fhi (h:TsM n ao cap x w0 w1 sb lb ab pb cb p rv lo hi B b1 VA TL w' RL VS U S c f' flo fhi)=>h.tc)
 have HMORE:=hid (fun w' RL VS U S c f flo fhi (h:TsM n ao cap x w0 w1 sb lb ab pb cb p rv lo hi B b1 VA TL w' RL VS U S c f flo fhi) hc=>more_any h hc)
 have HSP:=hid (show ∀ w' k gg sp,BlockI n ao cap x w0 w1 sb lb ab pb cb p rv lo hi B b1 VA TL f0 w' c0 m H k gg sp→k≤4611686018427387904∧w'.cell? ⟨pb,n.s.toNat,none⟩=some (.bool sp)∧∃ RL VS U S c f flo fhi,TsM n ao cap x w0 w1 sb lb ab pb cb p rv lo hi B b1 VA TL w' RL VS U S c f flo fhi from fun w' k gg sp h=>by
  obtain ⟨gl,Ws,RL,VS,U,S,c,f,flo,fhi,M,T,hF,hB,hK,hm,hk,hc0,hgg,hsp,hc⟩:=h
  refine ⟨by omega,?_,RL,VS,U,S,c,f,flo,fhi,M⟩
  rw [← hsp]
  exact (M.marks T.slen (by have:=hR.s0;have:=hR.s1;omega)).1)
 have hs0:=hR.s0
 have hs1:n.s<(n.n.toNat:Int)+1:=by have:=hR.s1;omega
 have hsz:(0:Int)≤n.s:=by omega
 obtain ⟨_,_,RL,VS,U,S,c,f,flo,fhi,M⟩:=HSP.out _ _ _ _ h
 obtain ⟨k0,k1,k2,k3,k4,k5,k6,k7,k8,k9,k10⟩:=M.tc
 clear M h hR hL hx hTL hH2
 go_enter Tryz.func96,Tryz.ntmps96
 go_wp2
 go_quiet (fail)
 have HI1:=hid (HI0.out nq)
 generalize (w.drewN nq)=wq at *
 clear k0 k1 k2 k3 k4 k5 k6 k7 k8 k9 k10 HI0
 go_wp2
 go_loopg [3,5,30,42] gg (fun q s3 s5 s30 s42 wr=>(∃ z,s5=z)∧(∃ z,s30=z)∧(∃ z,s42=z)∧∃ (k g2:Nat) (sp:Bool),s3=.int .i64 (k:Int)∧g2=q∧Hid (BlockI n ao cap x w0 w1 sb lb ab pb cb p rv lo hi B b1 VA TL f0 wr c0 m H k g2 sp))
 case atStart=>exact ⟨⟨_,rfl⟩,⟨_,rfl⟩,⟨_,rfl⟩,0,_,sp,rfl,rfl,HI1⟩
 case round =>
  obtain ⟨⟨z5,rfl⟩,⟨z30,rfl⟩,⟨z42,rfl⟩,k,g2,sp2,rfl,rfl,HI⟩:=hrel
  obtain ⟨hk,s0,RL,VS,U,S,c,f,flo,fhi,M⟩:=HSP.out _ _ _ _ HI.out
  obtain ⟨k0,k1,k2,k3,k4,k5,k6,k7,k8,k9,k10⟩:=HD.out _ _ _ _ _ _ _ _ _ M
  clear M
  cases sp2
  ·obtain ⟨RL,VS,U,S,c,f,flo,fhi,M,hc,HROOT⟩:=HRD.out _ _ _ HI.out
   have HROOT:=hid HROOT
   have HMO:=hid (HMORE.out _ _ _ _ _ _ _ _ _ M hc)
   clear M hc HI
   go_wp2_with fail
   refine HMO.out.mono ?_
   rintro e w3 ⟨rfl,M3⟩
   clear k0 k1 k2 k3 k4 k5 k6 k7 k8 k9 k10 s0
   obtain ⟨k0,k1,k2,k3,k4,k5,k6,k7,k8,k9,k10⟩:=HD.out _ _ _ _ _ _ _ _ _ M3
   have HRT:=hid (HROOT.out _ M3)
   clear M3 HROOT HMO
   go_wp2_with fail
   refine HRT.out.mono ?_
   rintro e w4 ⟨v,rfl,⟨RL4,VS4,U4,S4,c4,f4,flo4,fhi4,M4⟩,hcase⟩
   clear k0 k1 k2 k3 k4 k5 k6 k7 k8 k9 k10 HRT
   obtain ⟨k0,k1,k2,k3,k4,k5,k6,k7,k8,k9,k10⟩:=HD.out _ _ _ _ _ _ _ _ _ M4
   clear M4
   rcases hcase with ⟨hvt,hfill⟩ | ⟨hvt,hhang⟩
   ·have HF:=hid hfill
    have hd:((v:Int) == n.t)=true:=by simpa using hvt
    clear hfill hvt
    go_wp2_with fail
    refine HF.out.mono ?_
    rintro e w5 ⟨q,rfl,hq,g3,sp3,hg3,h5⟩
    have H5:=hid h5
    have hw1:IntKind.i64.wrap ((k:Int)+(q:Int))=((k+q:Nat):Int):=by rw [IntKind.wrap_i64];omega
    clear h5 k0 k1 k2 k3 k4 k5 k6 k7 k8 k9 k10
    go_wp2
    go_roundg g3
    case measure=>omega
    case rel=>exact ⟨⟨_,rfl⟩,⟨_,rfl⟩,⟨_,rfl⟩,k+q,_,sp3,rfl,rfl,H5⟩
   ·have HF:=hid hhang
    have hd:((v:Int) == n.t)=false:=by simpa using hvt
    clear hhang hvt
    go_wp2_with fail
    refine HF.out.mono ?_
    rintro e w5 ⟨b,rfl,h5⟩
    clear k0 k1 k2 k3 k4 k5 k6 k7 k8 k9 k10
    cases b
    ·have HLV:=hid h5
     clear h5
     go_wp2_with fail
     refine HLV.out.mono ?_
     rintro e w6 ⟨rfl,g3,sp3,hg3,h6⟩
     have H6:=hid h6
     clear h6
     go_wp2
     go_roundg g3
     case measure=>omega
     case rel=>exact ⟨⟨_,rfl⟩,⟨_,rfl⟩,⟨_,rfl⟩,k,_,sp3,rfl,rfl,H6⟩
    ·obtain ⟨g3,sp3,hg3,h6⟩:=h5
     have H6:=hid h6
     clear h6
     go_wp2
     go_roundg g3
     case measure=>omega
     case rel=>exact ⟨⟨_,rfl⟩,⟨_,rfl⟩,⟨_,rfl⟩,k,_,sp3,rfl,rfl,H6⟩
  ·have HE:=hid (HED.out _ _ _ HI.out)
   clear HI
   go_wp2
   go_ret
   exact ⟨k,rfl,HE.out⟩
end
end Ne
end Go.Proofs.YthhlfphnokdfaaaGreat
