/-
  Lvs
-/
import Derived.Test.YthhlfphnokdfaaaGreatBf36
import Derived.Test.YthhlfphnokdfaaaGreatBf11
import Derived.Deep.LoopGhost
import Derived.Deep.DeepCutAuto
import Derived.WalkMore
set_option linter.unusedVariables false
set_option linter.unusedSimpArgs false
set_option maxRecDepth 100000
set_option maxHeartbeats 4000000
namespace Go.Proofs.YthhlfphnokdfaaaGreat
open Go.ChangeShapes Go.WideShapes Go.ChangeAt Go.RowKit
open Lib (hid)
namespace Ne
theorem cell_new (w:World) {b:Nat} (hb:b=w.heap.size) (v:Value) (t:TypeId):(w.alloc (.cells #[v] t)).cell? ⟨b,0,none⟩=some v:=by
 subst hb;exact World.cell?_alloc_new w _ _ 0
theorem rbox_at {w:World} {lb lo hi n:Nat} {VS:Nat→Value} {U:Nat→List Nat} (h:RBox w lb lo hi n VS U) {v:Nat} (hv:v<n) {A:Option Addr} {Q c:Nat} (hV:VS v=.slice A Q c) {q:Nat} (hq:q<(U v).length) :
  ∃ b off,A=some ⟨b,off,none⟩∧b<w.heap.size∧w.cell? ⟨b,off+q,none⟩=some (.int .i64 (((U v).getD q 0:Nat):Int)):=by
 obtain ⟨A',c',h1,h2,h3,h4⟩:=h.each v hv
 rw [hV] at h1
 simp only [Value.slice.injEq] at h1
 obtain ⟨rfl,rfl,rfl⟩:=h1
 rcases h4 with h4 | ⟨b,off,rfl,h5,h6,h7⟩
 ·rw [h4] at hq;simp at hq
 ·exact ⟨b,off,rfl,by have:=h.sz;omega,h7 q hq⟩
theorem rbox_fr {w w2:World} {lb lo hi n B g bl bw bm:Nat} {VS:Nat→Value} {U:Nat→List Nat} (h:RBox w lb lo hi n VS U) (hf:Fr B g bl bw bm w w2) (h1:lb<B) (h2:hi≤B) (h3:lb≠g∧lb≠bl∧lb≠bw∧lb≠bm) (h4:∀ x,(x=g∨x=bl∨x=bw∨x=bm)→x<lo∨hi≤x):RBox w2 lb lo hi n VS U :=
 h.keep hf.size fun b hb=>by
  rcases hb with rfl | ⟨h5,h6⟩
  ·exact hf.block b h1 h3.1 h3.2.1 h3.2.2.1 h3.2.2.2
  ·exact hf.block b (by omega) (fun e=>by have:=h4 b (.inl e);omega) (fun e=>by have:=h4 b (.inr (.inl e));omega) (fun e=>by have:=h4 b (.inr (.inr (.inl e)));omega) (fun e=>by have:=h4 b (.inr (.inr (.inr e)));omega)
structure LvTells (N S:Nat) (U:Nat→List Nat) (LK:Nat→List Int→Prop) (LM:Nat→List Int→List Nat→Prop) (IL:List Int→Prop):Prop where
 start:LK 0 ((List.replicate (N+1) (-1)).set S 0)
 met0:∀ i:Nat,i∈[S]↔i<N+1∧amt ((List.replicate (N+1) (-1)).set S 0) i=((0:Nat):Int)
 fin:∀ k L,LK k L→(∀ i:Nat,i<N+1→amt L i≠(k:Int))→IL L
 lt:∀ k L i,LK k L→i<N+1→amt L i=(k:Int)→k<N
 beg:∀ k L,LK k L→LM k L []
 put:∀ (k lv:Nat) (L:List Int) (M:List Nat) (v t:Nat),lv=k+1→LM k L M→v<N+1→amt L v=(k:Int)→t∈U v→amt L t = -1→LM k (L.set t (lv:Int)) (M ++ [t])
 bd:∀ v t,t∈U v→t<N+1
 kp:∀ (k lv:Nat) (L:List Int) (M:List Nat) (t:Nat),lv=k+1→LM k L M→t<N+1→amt L t = -1→∀ j,0≤amt L j→0≤amt (L.set t (lv:Int)) j
 vk:∀ (k lv:Nat) (L:List Int) (M:List Nat) (t:Nat),lv=k+1→LM k L M→t<N+1→amt L t = -1→∀ i:Nat,amt L i=(k:Int)→amt (L.set t (lv:Int)) i=(k:Int)
 nx:∀ k L M,LM k L M→(∀ v,v<N+1→amt L v=(k:Int)→∀ t∈U v,0≤amt L t)→LK (k+1) L
 mt:∀ k L M,LM k L M→(∀ i:Nat,i∈M↔i<N+1∧amt L i=((k+1:Nat):Int))∧M.length≤N+1
 back:∀ (k lv:Nat) (L:List Int) (M:List Nat) (t:Nat),lv=k+1→LM k L M→t<N+1→amt L t = -1→∀ i:Nat,amt (L.set t (lv:Int)) i=(k:Int)→amt L i=(k:Int)
 nn:∀ k L M t,LM k L M→t<N+1→amt L t≠-1→0≤amt L t
theorem lv_tells {n:Net} (hR:Right n) (f:List Int) (x:Int):LvTells n.n.toNat n.s.toNat (nbL n.l (wideL n.l f x (2*n.l.length))) (LevK n f x) (LevM n f x) (IsLev n f x):=by
 have hn0:=hR.n0;have hs0:=hR.s0;have hs1:=hR.s1
 have hU:∀ v t,t∈nbL n.l (wideL n.l f x (2*n.l.length)) v→∃ r,r<2*n.l.length∧x≤roomN n.l f r∧(trF n.l r).toNat=v∧(trT n.l r).toNat=t:=fun v t h=>by
  obtain ⟨r,h1,h2,h3⟩:=nbL_mem.1 h
  obtain ⟨h4,h5⟩:=wideL_mem.1 h1
  exact ⟨r,h4,h5,h2,h3⟩
 refine ⟨levK_start hR f x,fun i=>?_,fun k L h h2=>levK_end hR h h2,fun k L i h h2 h3=>levK_lt hR h h2 h3,fun k L h=>levM_start h,fun k lv L M v t e h hv hk ht h1=>?_,fun v t h=>?_,fun k lv L M t e h ht h1 j hj=>?_,fun k lv L M t e h ht h1 i hi=>?_,fun k L M h hc=>?_,fun k L M h=>⟨h.met,by have:=h.few;omega⟩,fun k lv L M t e h ht h1 i hi=>?_,fun k L M t h ht h1=>?_⟩
 ·have h0:=lev0_at hR i
  unfold lev0 at h0
  rw [List.mem_singleton]
  constructor
  ·intro e
   refine ⟨by omega,?_⟩
   rw [h0 (by omega),if_pos e];rfl
  ·rintro ⟨hi,e⟩
   rw [h0 hi] at e
   by_cases c:i=n.s.toNat
   ·exact c
   ·rw [if_neg c] at e;omega
 ·subst e
  obtain ⟨r,h4,h5,h6,h7⟩:=hU v t ht
  have hb:=trF_bd hR h4;have hb2:=trT_bd hR h4
  refine levM_put h (by omega) h1 ?_
  rw [show ((t:Nat):Int)=trT n.l r by omega]
  refine .step h4 h5 ?_
  rcases h.val v hv with e2 | ⟨j,_,e2,hd⟩
  ·omega
  ·obtain rfl:j=k:=by omega
   rwa [show trF n.l r=(v:Int) by omega]
 ·obtain ⟨r,h4,_,_,h7⟩:=hU v t h
  have hb2:=trT_bd hR h4;omega
 ·subst e;exact levM_keep h ht h1 hj
 ·rw [amt_set _ (by rw [h.len];exact ht),if_neg (fun e2=>by subst e2;omega)];exact hi
 ·refine levM_end hR h fun r hr hx e=>?_
  have hb:=trF_bd hR hr
  exact hc (trF n.l r).toNat (by omega) e _ (nbL_mem.2 ⟨r,wideL_mem.2 ⟨hr,hx⟩,rfl,rfl⟩)
 ·rw [amt_set _ (by rw [h.len];exact ht)] at hi
  by_cases e2:i=t
  ·rw [if_pos e2] at hi;omega
  ·rw [if_neg e2] at hi;exact hi
 ·rcases h.val t ht with e | ⟨j,_,e,_⟩ <;> omega
def Mid (N k:Nat) (U:Nat→List Nat) (LM:Nat→List Int→List Nat→Prop) (M:List Nat) (L:List Int) (p:Nat) (L2:List Int) (M2:List Nat):Prop :=
 LM k L2 M2∧(∀ q,q<p→∀ t∈U (M.getD q 0),0≤amt L2 t)∧(∀ i∈M,i<N+1∧amt L2 i=(k:Int))∧∀ i:Nat,amt L2 i=(k:Int)→amt L i=(k:Int)
def Inn (N k:Nat) (U:Nat→List Nat) (LM:Nat→List Int→List Nat→Prop) (M:List Nat) (L:List Int) (p v q:Nat) (L3:List Int) (M3:List Nat):Prop :=
 Mid N k U LM M L p L3 M3∧∀ q',q' < q→0≤amt L3 ((U v).getD q' 0)
section
variable {N S k:Nat} {U:Nat→List Nat} {LK:Nat→List Int→Prop} {LM:Nat→List Int→List Nat→Prop} {IL:List Int→Prop} {M M2:List Nat} {L L2:List Int}
theorem mid_start (T:LvTells N S U LK LM IL) (h:LK k L) (hM:∀ i:Nat,i∈M↔i<N+1∧amt L i=(k:Int)):Mid N k U LM M L 0 L [] :=
 ⟨T.beg k L h,fun q hq=>absurd hq (by omega),fun i hi=>(hM i).1 hi,fun i e=>e⟩
theorem inn_start {p v:Nat} (h:Mid N k U LM M L p L2 M2):Inn N k U LM M L p v 0 L2 M2:=⟨h,fun q hq=>absurd hq (by omega)⟩
theorem inn_hit (T:LvTells N S U LK LM IL) {p v q t lv:Nat} (h:Inn N k U LM M L p v q L2 M2) (hv:v∈M) (hq:q<(U v).length) (ht:(U v).getD q 0=t) (e:lv=k+1) (h1:amt L2 t = -1) (hlen:L2.length=N+1):Inn N k U LM M L p v (q+1) (L2.set t (lv:Int)) (M2 ++ [t]):=by
 obtain ⟨⟨a1,a2,a3,a4⟩,a5⟩:=h
 have hm:t∈U v:=by rw [← ht];exact getD_mem hq
 have hb:=T.bd v t hm
 obtain ⟨hvN,hvk⟩:=a3 v hv
 refine ⟨⟨T.put k lv L2 M2 v t e a1 hvN hvk hm h1,fun q' hq' u hu=>T.kp k lv L2 M2 t e a1 hb h1 u (a2 q' hq' u hu),fun i hi=>⟨(a3 i hi).1,T.vk k lv L2 M2 t e a1 hb h1 i (a3 i hi).2⟩,fun i hi=>a4 i (T.back k lv L2 M2 t e a1 hb h1 i hi)⟩,fun q' hq'=>?_⟩
 by_cases c:q' = q
 ·rw [c,ht,amt_set _ (by omega),if_pos rfl];omega
 ·exact T.kp k lv L2 M2 t e a1 hb h1 _ (a5 q' (by omega))
theorem inn_miss (T:LvTells N S U LK LM IL) {p v q t:Nat} (h:Inn N k U LM M L p v q L2 M2) (hq:q<(U v).length) (ht:(U v).getD q 0=t) (h1:amt L2 t≠-1):Inn N k U LM M L p v (q+1) L2 M2:=by
 obtain ⟨a,a5⟩:=h
 have hm:t∈U v:=by rw [← ht];exact getD_mem hq
 refine ⟨a,fun q' hq'=>?_⟩
 by_cases c:q' = q
 ·rw [c,ht];exact T.nn k L2 M2 t a.1 (T.bd v t hm) h1
 ·exact a5 q' (by omega)
theorem inn_end {p v:Nat} (h:Inn N k U LM M L p v (U v).length L2 M2) (e:M.getD p 0=v):Mid N k U LM M L (p+1) L2 M2:=by
 obtain ⟨⟨a1,a2,a3,a4⟩,a5⟩:=h
 refine ⟨a1,fun q hq t ht=>?_,a3,a4⟩
 by_cases c:q=p
 ·subst c
  rw [e] at ht
  obtain ⟨i,hi,rfl⟩:=List.mem_iff_getElem.1 ht
  have:=a5 i hi
  simpa [List.getD_eq_getElem?_getD,hi] using this
 ·exact a2 q (by omega) t ht
theorem mid_end (T:LvTells N S U LK LM IL) (h:Mid N k U LM M L M.length L2 M2) (hM:∀ i:Nat,i∈M↔i<N+1∧amt L i=(k:Int)):LK (k+1) L2∧(∀ i:Nat,i∈M2↔i<N+1∧amt L2 i=((k+1:Nat):Int))∧M2.length≤N+1:=by
 obtain ⟨a1,a2,a3,a4⟩:=h
 refine ⟨T.nx k L2 M2 a1 fun v hv e t ht=>?_,T.mt k L2 M2 a1⟩
 obtain ⟨i,hi,e2⟩:=List.mem_iff_getElem.1 ((hM v).2 ⟨hv,a4 v e⟩)
 exact a2 i hi t (by rwa [show M.getD i 0=v by simp [List.getD_eq_getElem?_getD,hi,e2]])
end
theorem lvst_new {wc:World} {bl g n1:Nat} {L:List Int} (hb:SBox wc bl (.slice (some ⟨g,0,none⟩) n1 n1)) (hg:IBox wc g L) (hL:L.length=n1) (hne:g≠bl) :
  LvSt ((wc.alloc (.cells #[.slice none 0 0] 23)).alloc (.cells #[.slice none 0 0] 23)) (wc.heap.size+2) g bl wc.heap.size (wc.heap.size+1) n1 L (.slice none 0 0) [] (.slice none 0 0) []:=by
 have h1:=hb.lt
 have h2:=hg.lt
 refine ⟨(hb.alloc _).alloc _,(hg.alloc _).alloc _,hL,(sbox_new wc rfl _).alloc _,Rw.own_nil _ _,sbox_new _ (by simp) _,Rw.own_nil _ _,fun h hh=>by simp [Value.ownBlock] at hh,by omega,by omega,by simp⟩
theorem lvst_mem {w:World} {B g bl bw bm n1:Nat} {L:List Int} {VW:Value} {W:List Nat} {VM:Value} {M:List Nat} (st:LvSt w B g bl bw bm n1 L VW W VM M):∃ o c,VW=.slice o W.length c∧IRow w o (encW W):=by
 obtain ⟨o,c,h1,_,_,_,h5,_,_⟩:=Rw.own_row encI_len st.ow
 rw [encW_len] at h1
 exact ⟨o,c,h1,h5⟩
set_option maxHeartbeats 8000000 in
theorem levels_any (n:Net) (ao:Option Addr) (cap:Nat) (tk:Option Addr) (tc:Nat) (f:List Int) (x:Int) (w:World) (hr:ARow w ao n.l) (ht:IRow w tk (encW (wideL n.l f x (2*n.l.length)))) (hR:Right n) :
  Calls Tryz.prog 52 #[encN n ao cap,.slice tk (wideL n.l f x (2*n.l.length)).length tc] w fun e w'=>∃ g L,e=.returned (.slice (some ⟨g,0,none⟩) (n.n.toNat+1) (n.n.toNat+1))∧IsLev n f x L∧IBox w' g L∧Below w.heap.size w w':=by
 have hl:n.l.length≤1000000:=by have:=hR.len;omega
 have hN0:=hR.n0
 have hN1:=hR.n1
 have hS0:=hR.s0
 have hS1:=hR.s1
 have TL:=hid (lv_tells hR f x)
 have NBC:=hid (fun w' (h1:ARow w' ao n.l) (h2:IRow w' tk (encW (wideL n.l f x (2*n.l.length))))=>nbr_any n ao cap tk tc _ w' h1 h2 hR (fun r hr=>(wideL_mem.1 hr).1) (by have:=wideL_len n.l f x (2*n.l.length);have:=hR.len;omega))
 have RPC:=hid (fun w' b (h:w'.cell? ⟨b,0,none⟩=some (.int .i64 (-1)))=>show Calls Tryz.prog 55 #[.slice (some ⟨b,0,none⟩) 1 1,.int .i64 (n.n+1)] w' fun e w2=>∃ g,e=.returned (.slice (some ⟨g,0,none⟩) (n.n.toNat+1) (n.n.toNat+1))∧IBox w2 g (List.replicate (n.n.toNat+1) (-1))∧w'.heap.size≤g∧Below w'.heap.size w' w2 by
  have:=repeat_any b (-1) (n.n.toNat+1) w' (by omega) (by omega) h
  rwa [show ((n.n.toNat+1:Nat):Int)=n.n+1 by omega] at this)
 generalize nbL n.l (wideL n.l f x (2*n.l.length))=U at *
 generalize hLK:LevK n f x=LK at *
 generalize hLM:LevM n f x=LM at *
 generalize hIL:IsLev n f x=IL at *
 clear hLK hLM hIL hR
 generalize encW (wideL n.l f x (2*n.l.length))=TW at *
 generalize (wideL n.l f x (2*n.l.length)).length=tl at *
 obtain ⟨nn,ns,nt,l⟩:=n
 simp only at hr hl hN0 hN1 hS0 hS1 TL NBC RPC ⊢
 obtain ⟨N,rfl⟩:∃ N:Nat,nn=(N:Int):=⟨nn.toNat,by omega⟩
 obtain ⟨S,rfl⟩:∃ S:Nat,ns=(S:Int):=⟨ns.toNat,by omega⟩
 simp only [Int.toNat_natCast] at TL NBC RPC ⊢
 have HB0:=hid ((Below.refl w.heap.size w).alloc (Nat.le_refl _) (.cells #[.int .i64 (N:Int),.int .i64 (S:Int),.int .i64 nt,.slice ao l.length cap] 27))
 have HNX:=hid (netBox_new w (N:Int) (S:Int) nt (.slice ao l.length cap))
 have HR:=hid (hr.kept HB0.out)
 have HT:=hid (ht.kept HB0.out)
 clear hr ht
 have hmf:∀ (fn:Fn) (first cap:Array Value) (w:World),(Instr.makeFunc fn first cap).run Tryz.prog w=.ok (.func fn first cap) w:=fun _ _ _ _=>rfl
 go_enter Tryz.func52,Tryz.ntmps52
 go_wp2
 go_upto_region 1 with fail
 generalize hWA:(w.alloc (.cells #[.int .i64 (N:Int),.int .i64 (S:Int),.int .i64 nt,.slice ao l.length cap] 27))=WA0 at *
 have HBA0:=hid HB0.out
 have HRA0:=hid HR.out
 have HTA0:=hid HT.out
 have HNA0:=hid HNX.out
 have hbl0:w.heap.size<WA0.heap.size:=netBox_lt HNA0.out
 clear hWA HB0 HNX HR HT
 go_cut [5,6] (fun s5 s6 wc=>∃ (bl g lb lo hi:Nat) (VS:Nat→Value),s5=.pointer (some ⟨bl,0,none⟩)∧s6=.slice (some ⟨lb,0,none⟩) (N+1) (N+1)∧Hid (SBox wc bl (.slice (some ⟨g,0,none⟩) (N+1) (N+1)))∧Hid (IBox wc g (List.replicate (N+1) (-1)))∧Hid (RBox wc lb lo hi (N+1) VS U)∧Hid (Below w.heap.size w wc)∧Hid (NetBox wc w.heap.size (N:Int) (S:Int) nt (.slice ao l.length cap))∧Hid (w.heap.size<bl∧w.heap.size<g∧w.heap.size<lb∧bl≠g∧bl≠lb∧g≠lb∧(bl<lo∨hi≤bl)∧(g<lo∨hi≤g)))
 case first =>
  have hS0:=(show (fun w':World=>w'.cell? ⟨w.heap.size,0,none⟩=some (.int .i64 (N:Int))∧w'.cell? ⟨w.heap.size,1,none⟩=some (.int .i64 (S:Int))∧w'.cell? ⟨w.heap.size,2,none⟩=some (.int .i64 nt)∧w'.cell? ⟨w.heap.size,3,none⟩=some (.slice ao l.length cap)) WA0.drew from netBox_cells HNA0.out)
  obtain ⟨WA,hWA⟩:∃ W,W=WA0.drew:=⟨_,rfl⟩
  have HW0:=hid (show Below w.heap.size w WA by rw [hWA];exact below_drew HBA0.out)
  have HR0:=hid (show ARow WA ao l by rw [hWA];exact HRA0.out)
  have HT0:=hid (show IRow WA tk TW by rw [hWA];exact HTA0.out)
  have HN0:=hid (show NetBox WA w.heap.size (N:Int) (S:Int) nt (.slice ao l.length cap) by rw [hWA];exact HNA0.out)
  rw [← hWA] at hS0
  have hwN:IntKind.i64.wrap ((N:Int)+1)=(N:Int)+1:=by rw [IntKind.wrap_i64];omega
  refine Rh.start (S:=(fun w':World=>w'.cell? ⟨w.heap.size,0,none⟩=some (.int .i64 (N:Int))∧w'.cell? ⟨w.heap.size,1,none⟩=some (.int .i64 (S:Int))∧w'.cell? ⟨w.heap.size,2,none⟩=some (.int .i64 nt)∧w'.cell? ⟨w.heap.size,3,none⟩=some (.slice ao l.length cap))) (by kernel_rfl) ?_
  rw [← hWA]
  clear hWA
  refine Rh.tp 17 1 hS0 ?_
  refine Rh.tp 18 2 hS0 ?_
  refine Rh.tp 19 3 hS0 ?_
  refine Rh.tp 21 5 hS0 ?_
  refine Rh.tp 22 6 hS0 ?_
  refine Rh.two (i:=0) (j:=8) (by kernel_rfl) rfl rfl (fun K' hK'=>?_) (fun K' hK'=>?_)
  ·have HK:=hid hK'
   clear hK'
   go_simp
   have hb0:=(Below.refl WA.heap.size WA).alloc (Nat.le_refl _) (.cells #[.int .i64 (-1)] 3)
   have HW1:=hid (HW0.out.trans (hb0.mono HW0.out.size))
   have HN1:=hid (netBox_below HN0.out hb0 (netBox_lt HN0.out))
   have HR1:=hid (HR0.out.kept hb0)
   have HT1:=hid (HT0.out.kept hb0)
   have hS1:=(show (fun w':World=>w'.cell? ⟨w.heap.size,0,none⟩=some (.int .i64 (N:Int))∧w'.cell? ⟨w.heap.size,1,none⟩=some (.int .i64 (S:Int))∧w'.cell? ⟨w.heap.size,2,none⟩=some (.int .i64 nt)∧w'.cell? ⟨w.heap.size,3,none⟩=some (.slice ao l.length cap)) (WA.alloc (.cells #[.int .i64 (-1)] 3)) from netBox_cells HN1.out)
   have C1:=hid (cell_new WA (b:=WA.heap.size) (by simp) (.int .i64 (-1)) 3)
   refine HK.out _ _ ⟨hS1,?_⟩
   clear HK K'
   try simp only [Act.put,Rh.q1,Rh.q2,Rh.q3]
   refine Rh.two (i:=4) (j:=8) (by kernel_rfl) rfl rfl (fun K' hK'=>?_) (fun K' hK'=>?_)
   ·have HK:=hid hK'
    clear hK'
    go_simp
    refine (RPC.out _ _ C1.out).mono ?_
    rintro e w4 ⟨g,rfl,hgi,hgs,hbr⟩
    have HW2:=hid (HW1.out.trans (hbr.mono HW1.out.size))
    have HN2:=hid (netBox_below HN1.out hbr (netBox_lt HN1.out))
    have HR2:=hid (HR1.out.kept hbr)
    have HT2:=hid (HT1.out.kept hbr)
    have C2:=hid ((hbr.cell (World.block_lt_of_cell? _ _ C1.out)).trans C1.out)
    have hS2:=(show (fun w':World=>w'.cell? ⟨w.heap.size,0,none⟩=some (.int .i64 (N:Int))∧w'.cell? ⟨w.heap.size,1,none⟩=some (.int .i64 (S:Int))∧w'.cell? ⟨w.heap.size,2,none⟩=some (.int .i64 nt)∧w'.cell? ⟨w.heap.size,3,none⟩=some (.slice ao l.length cap)) w4 from netBox_cells HN2.out)
    have G2:=hid hgi
    have hgl:=hgi.lt

    refine HK.out _ _ ⟨hS2,?_⟩
    clear HK K'
    try simp only [Act.put,Rh.q1,Rh.q2,Rh.q3]
    refine Rh.two (i:=7) (j:=8) (by kernel_rfl) rfl rfl (fun K' hK'=>?_) (fun K' hK'=>?_)
    ·have HK:=hid hK'
     clear hK'
     go_simp
     refine (NBC.out _ HR2.out HT2.out).mono ?_
     rintro e w7 ⟨lb,VS,rfl,hgb,hlb,hbn⟩
     have HW3:=hid (HW2.out.trans (hbn.mono HW2.out.size))
     have HN3:=hid (netBox_below HN2.out hbn (netBox_lt HN2.out))
     have HR3:=hid (HR2.out.kept hbn)
     have HT3:=hid (HT2.out.kept hbn)
     have G3:=hid (G2.out.kept hbn)
     have hS3:=(show (fun w':World=>w'.cell? ⟨w.heap.size,0,none⟩=some (.int .i64 (N:Int))∧w'.cell? ⟨w.heap.size,1,none⟩=some (.int .i64 (S:Int))∧w'.cell? ⟨w.heap.size,2,none⟩=some (.int .i64 nt)∧w'.cell? ⟨w.heap.size,3,none⟩=some (.slice ao l.length cap)) w7 from netBox_cells HN3.out)
     have X3:=hid (RBox.of_g hgb)

     refine HK.out _ _ ⟨hS3,?_⟩
     clear HK K'
     try simp only [Act.put,Rh.q1,Rh.q2,Rh.q3]
     refine Rh.step (i:=8) (by kernel_rfl) rfl fun K' hK'=>?_
     have HK:=hid hK'
     clear hK'
     go_simp
     have hb3:=(Below.refl w7.heap.size w7).alloc (Nat.le_refl _) (.cells #[.slice none 0 0] 23)
     have HW4:=hid (HW3.out.trans (hb3.mono HW3.out.size))
     have HN4:=hid (netBox_below HN3.out hb3 (netBox_lt HN3.out))
     have HR4:=hid (HR3.out.kept hb3)
     have HT4:=hid (HT3.out.kept hb3)
     have G4:=hid (G3.out.kept hb3)
     have X4:=hid (X3.out.below hb3)
     have hS4:=(show (fun w':World=>w'.cell? ⟨w.heap.size,0,none⟩=some (.int .i64 (N:Int))∧w'.cell? ⟨w.heap.size,1,none⟩=some (.int .i64 (S:Int))∧w'.cell? ⟨w.heap.size,2,none⟩=some (.int .i64 nt)∧w'.cell? ⟨w.heap.size,3,none⟩=some (.slice ao l.length cap)) (w7.alloc (.cells #[.slice none 0 0] 23)) from netBox_cells HN4.out)
     have L4:=hid (sbox_new w7 (b:=w7.heap.size) (by simp) (.slice none 0 0))
     refine HK.out _ _ ⟨hS4,?_⟩
     clear HK K'
     try simp only [Act.put,Rh.q1,Rh.q2,Rh.q3]
     refine Rh.step (i:=9) (by kernel_rfl) rfl fun K' hK'=>?_
     have HK:=hid hK'
     clear hK'
     go_simp
     have HN9:=hid (netBox_alloc HN3.out (.cells #[(.slice (some ⟨g,0,none⟩) (N+1) (N+1))] 23))
     have hS9:=(show (fun w':World=>w'.cell? ⟨w.heap.size,0,none⟩=some (.int .i64 (N:Int))∧w'.cell? ⟨w.heap.size,1,none⟩=some (.int .i64 (S:Int))∧w'.cell? ⟨w.heap.size,2,none⟩=some (.int .i64 nt)∧w'.cell? ⟨w.heap.size,3,none⟩=some (.slice ao l.length cap)) (w7.alloc (.cells #[(.slice (some ⟨g,0,none⟩) (N+1) (N+1))] 23)) from netBox_cells HN9.out)
     refine HK.out _ _ ⟨hS9,?_⟩
     clear HK K'
     try simp only [Act.put,Rh.q1,Rh.q2,Rh.q3]
     refine Rh.tp 6 10 hS9 ?_
     refine Rh.done (by kernel_rfl) ?_ _
     go_wp2
     go_meet
     case rel=>exact (by have a0:=netBox_lt HN0.out;have a9:=hgb.lt;have z0:(WA.alloc (.cells #[.int .i64 (-1)] 3)).heap.size=WA.heap.size+1:=(by simp);have z1:=hbr.size;have z2:=hbn.size;exact ⟨w7.heap.size,g,lb,lb+1,w7.heap.size,VS,rfl,rfl,hid (sbox_new w7 rfl _),hid (G3.out.alloc _),hid (X3.out.alloc _),hid (HW3.out.alloc HW3.out.size _),HN9,hid (by omega)⟩)
    ·have HK:=hid hK'
     clear hK'
     go_simp
     have hb2:=(Below.refl w4.heap.size w4).alloc (Nat.le_refl _) (.cells #[.slice none 0 0] 23)
     have HW3:=hid (HW2.out.trans (hb2.mono HW2.out.size))
     have HN3:=hid (netBox_below HN2.out hb2 (netBox_lt HN2.out))
     have HR3:=hid (HR2.out.kept hb2)
     have HT3:=hid (HT2.out.kept hb2)
     have G3:=hid (G2.out.kept hb2)
     have hS3:=(show (fun w':World=>w'.cell? ⟨w.heap.size,0,none⟩=some (.int .i64 (N:Int))∧w'.cell? ⟨w.heap.size,1,none⟩=some (.int .i64 (S:Int))∧w'.cell? ⟨w.heap.size,2,none⟩=some (.int .i64 nt)∧w'.cell? ⟨w.heap.size,3,none⟩=some (.slice ao l.length cap)) (w4.alloc (.cells #[.slice none 0 0] 23)) from netBox_cells HN3.out)
     have L3:=hid (sbox_new w4 (b:=w4.heap.size) (by simp) (.slice none 0 0))
     refine HK.out _ _ ⟨hS3,?_⟩
     clear HK K'
     try simp only [Act.put,Rh.q1,Rh.q2,Rh.q3]
     refine Rh.step (i:=7) (by kernel_rfl) rfl fun K' hK'=>?_
     have HK:=hid hK'
     clear hK'
     go_simp
     refine (NBC.out _ HR3.out HT3.out).mono ?_
     rintro e w7 ⟨lb,VS,rfl,hgb,hlb,hbn⟩
     have HW4:=hid (HW3.out.trans (hbn.mono HW3.out.size))
     have HN4:=hid (netBox_below HN3.out hbn (netBox_lt HN3.out))
     have HR4:=hid (HR3.out.kept hbn)
     have HT4:=hid (HT3.out.kept hbn)
     have G4:=hid (G3.out.kept hbn)
     have L4:=hid (L3.out.kept hbn)
     have hS4:=(show (fun w':World=>w'.cell? ⟨w.heap.size,0,none⟩=some (.int .i64 (N:Int))∧w'.cell? ⟨w.heap.size,1,none⟩=some (.int .i64 (S:Int))∧w'.cell? ⟨w.heap.size,2,none⟩=some (.int .i64 nt)∧w'.cell? ⟨w.heap.size,3,none⟩=some (.slice ao l.length cap)) w7 from netBox_cells HN4.out)
     have X4:=hid (RBox.of_g hgb)
     have cS:=L4.out.cell
     have fS:=L4.out.frozen 0

     refine HK.out _ _ ⟨hS4,?_⟩
     clear HK K'
     try simp only [Act.put,Rh.q1,Rh.q2,Rh.q3]
     refine Rh.step (i:=9) (by kernel_rfl) rfl fun K' hK'=>?_
     have HK:=hid hK'
     clear hK'
     go_simp
     have HN9:=hid (netBox_other HN4.out (b2:=w4.heap.size) (o:=0) (v2:=(.slice (some ⟨g,0,none⟩) (N+1) (N+1))) (by have a0:=netBox_lt HN0.out;have a9:=hgb.lt;have z0:(WA.alloc (.cells #[.int .i64 (-1)] 3)).heap.size=WA.heap.size+1:=(by simp);have z1:=hbr.size;have z2:(w4.alloc (.cells #[.slice none 0 0] 23)).heap.size=w4.heap.size+1:=(by simp);have z3:=hbn.size;omega))
     have hS9:=(show (fun w':World=>w'.cell? ⟨w.heap.size,0,none⟩=some (.int .i64 (N:Int))∧w'.cell? ⟨w.heap.size,1,none⟩=some (.int .i64 (S:Int))∧w'.cell? ⟨w.heap.size,2,none⟩=some (.int .i64 nt)∧w'.cell? ⟨w.heap.size,3,none⟩=some (.slice ao l.length cap)) (w7.setCell ⟨w4.heap.size,0,none⟩ (.slice (some ⟨g,0,none⟩) (N+1) (N+1))) from netBox_cells HN9.out)
     refine HK.out _ _ ⟨hS9,?_⟩
     clear HK K'
     try simp only [Act.put,Rh.q1,Rh.q2,Rh.q3]
     refine Rh.tp 6 10 hS9 ?_
     refine Rh.done (by kernel_rfl) ?_ _
     go_wp2
     go_meet
     case rel=>exact (by have a0:=netBox_lt HN0.out;have a9:=hgb.lt;have z0:(WA.alloc (.cells #[.int .i64 (-1)] 3)).heap.size=WA.heap.size+1:=(by simp);have z1:=hbr.size;have z2:(w4.alloc (.cells #[.slice none 0 0] 23)).heap.size=w4.heap.size+1:=(by simp);have z3:=hbn.size;exact ⟨w4.heap.size,g,lb,lb+1,w7.heap.size,VS,rfl,rfl,hid (L4.out.set _),hid (G4.out.far (p:=⟨w4.heap.size,0,none⟩) (by show g≠w4.heap.size;omega) _),hid (X4.out.far (p:=⟨w4.heap.size,0,none⟩) (by show w4.heap.size≠lb;omega) (by show w4.heap.size<lb+1∨w7.heap.size≤w4.heap.size;omega) _),hid (HW4.out.setCell (p:=⟨w4.heap.size,0,none⟩) (by show w.heap.size≤w4.heap.size;omega) _),HN9,hid (by omega)⟩)
   ·have HK:=hid hK'
    clear hK'
    go_simp
    have hb1:=(Below.refl (WA.alloc (.cells #[.int .i64 (-1)] 3)).heap.size (WA.alloc (.cells #[.int .i64 (-1)] 3))).alloc (Nat.le_refl _) (.cells #[.slice none 0 0] 23)
    have HW2:=hid (HW1.out.trans (hb1.mono HW1.out.size))
    have HN2:=hid (netBox_below HN1.out hb1 (netBox_lt HN1.out))
    have HR2:=hid (HR1.out.kept hb1)
    have HT2:=hid (HT1.out.kept hb1)
    have C2:=hid ((hb1.cell (World.block_lt_of_cell? _ _ C1.out)).trans C1.out)
    have hS2:=(show (fun w':World=>w'.cell? ⟨w.heap.size,0,none⟩=some (.int .i64 (N:Int))∧w'.cell? ⟨w.heap.size,1,none⟩=some (.int .i64 (S:Int))∧w'.cell? ⟨w.heap.size,2,none⟩=some (.int .i64 nt)∧w'.cell? ⟨w.heap.size,3,none⟩=some (.slice ao l.length cap)) ((WA.alloc (.cells #[.int .i64 (-1)] 3)).alloc (.cells #[.slice none 0 0] 23)) from netBox_cells HN2.out)
    have L2:=hid (sbox_new (WA.alloc (.cells #[.int .i64 (-1)] 3)) (b:=WA.heap.size+1) (by simp) (.slice none 0 0))
    refine HK.out _ _ ⟨hS2,?_⟩
    clear HK K'
    try simp only [Act.put,Rh.q1,Rh.q2,Rh.q3]
    refine Rh.step (i:=4) (by kernel_rfl) rfl fun K' hK'=>?_
    have HK:=hid hK'
    clear hK'
    go_simp
    refine (RPC.out _ _ C2.out).mono ?_
    rintro e w4 ⟨g,rfl,hgi,hgs,hbr⟩
    have HW3:=hid (HW2.out.trans (hbr.mono HW2.out.size))
    have HN3:=hid (netBox_below HN2.out hbr (netBox_lt HN2.out))
    have HR3:=hid (HR2.out.kept hbr)
    have HT3:=hid (HT2.out.kept hbr)
    have C3:=hid ((hbr.cell (World.block_lt_of_cell? _ _ C2.out)).trans C2.out)
    have L3:=hid (L2.out.kept hbr)
    have hS3:=(show (fun w':World=>w'.cell? ⟨w.heap.size,0,none⟩=some (.int .i64 (N:Int))∧w'.cell? ⟨w.heap.size,1,none⟩=some (.int .i64 (S:Int))∧w'.cell? ⟨w.heap.size,2,none⟩=some (.int .i64 nt)∧w'.cell? ⟨w.heap.size,3,none⟩=some (.slice ao l.length cap)) w4 from netBox_cells HN3.out)
    have G3:=hid hgi
    have hgl:=hgi.lt

    refine HK.out _ _ ⟨hS3,?_⟩
    clear HK K'
    try simp only [Act.put,Rh.q1,Rh.q2,Rh.q3]
    refine Rh.step (i:=7) (by kernel_rfl) rfl fun K' hK'=>?_
    have HK:=hid hK'
    clear hK'
    go_simp
    refine (NBC.out _ HR3.out HT3.out).mono ?_
    rintro e w7 ⟨lb,VS,rfl,hgb,hlb,hbn⟩
    have HW4:=hid (HW3.out.trans (hbn.mono HW3.out.size))
    have HN4:=hid (netBox_below HN3.out hbn (netBox_lt HN3.out))
    have HR4:=hid (HR3.out.kept hbn)
    have HT4:=hid (HT3.out.kept hbn)
    have G4:=hid (G3.out.kept hbn)
    have L4:=hid (L3.out.kept hbn)
    have hS4:=(show (fun w':World=>w'.cell? ⟨w.heap.size,0,none⟩=some (.int .i64 (N:Int))∧w'.cell? ⟨w.heap.size,1,none⟩=some (.int .i64 (S:Int))∧w'.cell? ⟨w.heap.size,2,none⟩=some (.int .i64 nt)∧w'.cell? ⟨w.heap.size,3,none⟩=some (.slice ao l.length cap)) w7 from netBox_cells HN4.out)
    have X4:=hid (RBox.of_g hgb)
    have cS:=L4.out.cell
    have fS:=L4.out.frozen 0

    refine HK.out _ _ ⟨hS4,?_⟩
    clear HK K'
    try simp only [Act.put,Rh.q1,Rh.q2,Rh.q3]
    refine Rh.step (i:=9) (by kernel_rfl) rfl fun K' hK'=>?_
    have HK:=hid hK'
    clear hK'
    go_simp
    have HN9:=hid (netBox_other HN4.out (b2:=WA.heap.size+1) (o:=0) (v2:=(.slice (some ⟨g,0,none⟩) (N+1) (N+1))) (by have a0:=netBox_lt HN0.out;have a9:=hgb.lt;have z0:(WA.alloc (.cells #[.int .i64 (-1)] 3)).heap.size=WA.heap.size+1:=(by simp);have z1:((WA.alloc (.cells #[.int .i64 (-1)] 3)).alloc (.cells #[.slice none 0 0] 23)).heap.size=(WA.alloc (.cells #[.int .i64 (-1)] 3)).heap.size+1:=(by simp);have z2:=hbr.size;have z3:=hbn.size;omega))
    have hS9:=(show (fun w':World=>w'.cell? ⟨w.heap.size,0,none⟩=some (.int .i64 (N:Int))∧w'.cell? ⟨w.heap.size,1,none⟩=some (.int .i64 (S:Int))∧w'.cell? ⟨w.heap.size,2,none⟩=some (.int .i64 nt)∧w'.cell? ⟨w.heap.size,3,none⟩=some (.slice ao l.length cap)) (w7.setCell ⟨WA.heap.size+1,0,none⟩ (.slice (some ⟨g,0,none⟩) (N+1) (N+1))) from netBox_cells HN9.out)
    refine HK.out _ _ ⟨hS9,?_⟩
    clear HK K'
    try simp only [Act.put,Rh.q1,Rh.q2,Rh.q3]
    refine Rh.tp 6 10 hS9 ?_
    refine Rh.done (by kernel_rfl) ?_ _
    go_wp2
    go_meet
    case rel=>exact (by have a0:=netBox_lt HN0.out;have a9:=hgb.lt;have z0:(WA.alloc (.cells #[.int .i64 (-1)] 3)).heap.size=WA.heap.size+1:=(by simp);have z1:((WA.alloc (.cells #[.int .i64 (-1)] 3)).alloc (.cells #[.slice none 0 0] 23)).heap.size=(WA.alloc (.cells #[.int .i64 (-1)] 3)).heap.size+1:=(by simp);have z2:=hbr.size;have z3:=hbn.size;exact ⟨WA.heap.size+1,g,lb,lb+1,w7.heap.size,VS,rfl,rfl,hid (L4.out.set _),hid (G4.out.far (p:=⟨WA.heap.size+1,0,none⟩) (by show g≠WA.heap.size+1;omega) _),hid (X4.out.far (p:=⟨WA.heap.size+1,0,none⟩) (by show WA.heap.size+1≠lb;omega) (by show WA.heap.size+1<lb+1∨w7.heap.size≤WA.heap.size+1;omega) _),hid (HW4.out.setCell (p:=⟨WA.heap.size+1,0,none⟩) (by show w.heap.size≤WA.heap.size+1;omega) _),HN9,hid (by omega)⟩)
  ·have HK:=hid hK'
   clear hK'
   go_simp
   have hb0:=(Below.refl WA.heap.size WA).alloc (Nat.le_refl _) (.cells #[.slice none 0 0] 23)
   have HW1:=hid (HW0.out.trans (hb0.mono HW0.out.size))
   have HN1:=hid (netBox_below HN0.out hb0 (netBox_lt HN0.out))
   have HR1:=hid (HR0.out.kept hb0)
   have HT1:=hid (HT0.out.kept hb0)
   have hS1:=(show (fun w':World=>w'.cell? ⟨w.heap.size,0,none⟩=some (.int .i64 (N:Int))∧w'.cell? ⟨w.heap.size,1,none⟩=some (.int .i64 (S:Int))∧w'.cell? ⟨w.heap.size,2,none⟩=some (.int .i64 nt)∧w'.cell? ⟨w.heap.size,3,none⟩=some (.slice ao l.length cap)) (WA.alloc (.cells #[.slice none 0 0] 23)) from netBox_cells HN1.out)
   have L1:=hid (sbox_new WA (b:=WA.heap.size) (by simp) (.slice none 0 0))
   refine HK.out _ _ ⟨hS1,?_⟩
   clear HK K'
   try simp only [Act.put,Rh.q1,Rh.q2,Rh.q3]
   refine Rh.step (i:=0) (by kernel_rfl) rfl fun K' hK'=>?_
   have HK:=hid hK'
   clear hK'
   go_simp
   have hb1:=(Below.refl (WA.alloc (.cells #[.slice none 0 0] 23)).heap.size (WA.alloc (.cells #[.slice none 0 0] 23))).alloc (Nat.le_refl _) (.cells #[.int .i64 (-1)] 3)
   have HW2:=hid (HW1.out.trans (hb1.mono HW1.out.size))
   have HN2:=hid (netBox_below HN1.out hb1 (netBox_lt HN1.out))
   have HR2:=hid (HR1.out.kept hb1)
   have HT2:=hid (HT1.out.kept hb1)
   have L2:=hid (L1.out.kept hb1)
   have hS2:=(show (fun w':World=>w'.cell? ⟨w.heap.size,0,none⟩=some (.int .i64 (N:Int))∧w'.cell? ⟨w.heap.size,1,none⟩=some (.int .i64 (S:Int))∧w'.cell? ⟨w.heap.size,2,none⟩=some (.int .i64 nt)∧w'.cell? ⟨w.heap.size,3,none⟩=some (.slice ao l.length cap)) ((WA.alloc (.cells #[.slice none 0 0] 23)).alloc (.cells #[.int .i64 (-1)] 3)) from netBox_cells HN2.out)
   have C2:=hid (cell_new (WA.alloc (.cells #[.slice none 0 0] 23)) (b:=WA.heap.size+1) (by simp) (.int .i64 (-1)) 3)
   refine HK.out _ _ ⟨hS2,?_⟩
   clear HK K'
   try simp only [Act.put,Rh.q1,Rh.q2,Rh.q3]
   refine Rh.step (i:=4) (by kernel_rfl) rfl fun K' hK'=>?_
   have HK:=hid hK'
   clear hK'
   go_simp
   refine (RPC.out _ _ C2.out).mono ?_
   rintro e w4 ⟨g,rfl,hgi,hgs,hbr⟩
   have HW3:=hid (HW2.out.trans (hbr.mono HW2.out.size))
   have HN3:=hid (netBox_below HN2.out hbr (netBox_lt HN2.out))
   have HR3:=hid (HR2.out.kept hbr)
   have HT3:=hid (HT2.out.kept hbr)
   have C3:=hid ((hbr.cell (World.block_lt_of_cell? _ _ C2.out)).trans C2.out)
   have L3:=hid (L2.out.kept hbr)
   have hS3:=(show (fun w':World=>w'.cell? ⟨w.heap.size,0,none⟩=some (.int .i64 (N:Int))∧w'.cell? ⟨w.heap.size,1,none⟩=some (.int .i64 (S:Int))∧w'.cell? ⟨w.heap.size,2,none⟩=some (.int .i64 nt)∧w'.cell? ⟨w.heap.size,3,none⟩=some (.slice ao l.length cap)) w4 from netBox_cells HN3.out)
   have G3:=hid hgi
   have hgl:=hgi.lt

   refine HK.out _ _ ⟨hS3,?_⟩
   clear HK K'
   try simp only [Act.put,Rh.q1,Rh.q2,Rh.q3]
   refine Rh.step (i:=7) (by kernel_rfl) rfl fun K' hK'=>?_
   have HK:=hid hK'
   clear hK'
   go_simp
   refine (NBC.out _ HR3.out HT3.out).mono ?_
   rintro e w7 ⟨lb,VS,rfl,hgb,hlb,hbn⟩
   have HW4:=hid (HW3.out.trans (hbn.mono HW3.out.size))
   have HN4:=hid (netBox_below HN3.out hbn (netBox_lt HN3.out))
   have HR4:=hid (HR3.out.kept hbn)
   have HT4:=hid (HT3.out.kept hbn)
   have G4:=hid (G3.out.kept hbn)
   have L4:=hid (L3.out.kept hbn)
   have hS4:=(show (fun w':World=>w'.cell? ⟨w.heap.size,0,none⟩=some (.int .i64 (N:Int))∧w'.cell? ⟨w.heap.size,1,none⟩=some (.int .i64 (S:Int))∧w'.cell? ⟨w.heap.size,2,none⟩=some (.int .i64 nt)∧w'.cell? ⟨w.heap.size,3,none⟩=some (.slice ao l.length cap)) w7 from netBox_cells HN4.out)
   have X4:=hid (RBox.of_g hgb)
   have cS:=L4.out.cell
   have fS:=L4.out.frozen 0

   refine HK.out _ _ ⟨hS4,?_⟩
   clear HK K'
   try simp only [Act.put,Rh.q1,Rh.q2,Rh.q3]
   refine Rh.step (i:=9) (by kernel_rfl) rfl fun K' hK'=>?_
   have HK:=hid hK'
   clear hK'
   go_simp
   have HN9:=hid (netBox_other HN4.out (b2:=WA.heap.size) (o:=0) (v2:=(.slice (some ⟨g,0,none⟩) (N+1) (N+1))) (by have a0:=netBox_lt HN0.out;have a9:=hgb.lt;have z0:(WA.alloc (.cells #[.slice none 0 0] 23)).heap.size=WA.heap.size+1:=(by simp);have z1:((WA.alloc (.cells #[.slice none 0 0] 23)).alloc (.cells #[.int .i64 (-1)] 3)).heap.size=(WA.alloc (.cells #[.slice none 0 0] 23)).heap.size+1:=(by simp);have z2:=hbr.size;have z3:=hbn.size;omega))
   have hS9:=(show (fun w':World=>w'.cell? ⟨w.heap.size,0,none⟩=some (.int .i64 (N:Int))∧w'.cell? ⟨w.heap.size,1,none⟩=some (.int .i64 (S:Int))∧w'.cell? ⟨w.heap.size,2,none⟩=some (.int .i64 nt)∧w'.cell? ⟨w.heap.size,3,none⟩=some (.slice ao l.length cap)) (w7.setCell ⟨WA.heap.size,0,none⟩ (.slice (some ⟨g,0,none⟩) (N+1) (N+1))) from netBox_cells HN9.out)
   refine HK.out _ _ ⟨hS9,?_⟩
   clear HK K'
   try simp only [Act.put,Rh.q1,Rh.q2,Rh.q3]
   refine Rh.tp 6 10 hS9 ?_
   refine Rh.done (by kernel_rfl) ?_ _
   go_wp2
   go_meet
   case rel=>exact (by have a0:=netBox_lt HN0.out;have a9:=hgb.lt;have z0:(WA.alloc (.cells #[.slice none 0 0] 23)).heap.size=WA.heap.size+1:=(by simp);have z1:((WA.alloc (.cells #[.slice none 0 0] 23)).alloc (.cells #[.int .i64 (-1)] 3)).heap.size=(WA.alloc (.cells #[.slice none 0 0] 23)).heap.size+1:=(by simp);have z2:=hbr.size;have z3:=hbn.size;exact ⟨WA.heap.size,g,lb,lb+1,w7.heap.size,VS,rfl,rfl,hid (L4.out.set _),hid (G4.out.far (p:=⟨WA.heap.size,0,none⟩) (by show g≠WA.heap.size;omega) _),hid (X4.out.far (p:=⟨WA.heap.size,0,none⟩) (by show WA.heap.size≠lb;omega) (by show WA.heap.size<lb+1∨w7.heap.size≤WA.heap.size;omega) _),hid (HW4.out.setCell (p:=⟨WA.heap.size,0,none⟩) (by show w.heap.size≤WA.heap.size;omega) _),HN9,hid (by omega)⟩)
 case rest =>
 obtain ⟨bl,g,lb,lo,hi,VS,rfl,rfl,HBL,HGI,HX0,HBC,HNC,HOR⟩:=hcut
 obtain ⟨n0,n1,n2,n3⟩:=netBox_cells (netBox_alloc (netBox_alloc HNC.out (.cells #[.slice none 0 0] 23)) (.cells #[.slice none 0 0] 23))
 obtain ⟨o1,o2,o3,o4,o5,o6,o7,o8⟩:=HOR.out
 have HST0:=hid (lvst_new HBL.out HGI.out (by simp) (Ne.symm o4))
 have HB2:=hid ((HBC.out.alloc HBC.out.size (.cells #[.slice none 0 0] 23)).alloc (by have:=HBC.out.size;simp;omega) (.cells #[.slice none 0 0] 23))
 have HX2:=hid ((HX0.out.alloc (.cells #[.slice none 0 0] 23)).alloc (.cells #[.slice none 0 0] 23))
 have HORD:=hid (show w.heap.size<bl∧w.heap.size<g∧w.heap.size<lb∧w.heap.size<wc.heap.size∧bl≠lb∧g≠lb∧(bl<lo∨hi≤bl)∧(g<lo∨hi≤g)∧bl<wc.heap.size∧g<wc.heap.size∧lb<wc.heap.size∧hi≤wc.heap.size by
  have h1:=HBL.out.lt;have h2:=HGI.out.lt;have h3:=HX0.out.lt;have h4:=HX0.out.sz
  omega)
 have HFRB:=hid (show ∀ wa wb,Fr (wc.heap.size+2) g bl wc.heap.size (wc.heap.size+1) wa wb→Below w.heap.size w wa→Below w.heap.size w wb from fun wa wb hf hb=>hb.trans (hf.below (by have:=HORD.out;omega) (by have:=HORD.out;omega) (by have:=HORD.out;omega) (by have:=HORD.out;omega) (by have:=HORD.out;omega)))
 have HFRX:=hid (show ∀ wa wb,Fr (wc.heap.size+2) g bl wc.heap.size (wc.heap.size+1) wa wb→RBox wa lb lo hi (N+1) VS U→RBox wb lb lo hi (N+1) VS U from fun wa wb hf hx=>rbox_fr hx hf (by have:=HORD.out;omega) (by have:=HORD.out;omega) (by have:=HORD.out;omega) (fun y hy=>by have:=HORD.out;rcases hy with e | e | e | e <;> omega))
 have h64S:in64 (0:Int):=by unfold in64;omega
 have hL0:=amt_repl (N+1) (-1) (i:=S) (by omega)
 clear o1 o2 o3 o4 o5 o6 o7 o8 HOR HBL HGI HX0 RPC NBC
 go_wp2_with fail
 generalize ((wc.alloc (.cells #[.slice none 0 0] 23)).alloc (.cells #[.slice none 0 0] 23))=W2 at *
 refine (meet_any W2 HST0.out (v:=S) (by omega) 0 h64S (by simp)).mono ?_
 rintro e w3 ⟨rfl,hfr,hy,-⟩
 obtain ⟨VM0,hst⟩:=hy hL0
 have HST3:=hid hst
 have HX3:=hid (HFRX.out _ _ hfr HX2.out)
 have HB3:=hid (HFRB.out _ _ hfr HB2.out)
 clear hy hst hfr n0 n1 n2 n3 HNC HBC HX2 HB2 HST0 hL0 h64S
 obtain ⟨z,hz⟩:∃ z,z=wc.heap.size:=⟨_,rfl⟩
 rw [← hz] at HST3 HFRX HFRB HORD ⊢
 clear hz
 go_wp2
 go_loopg [11] N (fun gg i wr=>∃ (k lv:Nat) (L:List Int) (VW:Value) (W:List Nat) (VM:Value) (M:List Nat),i=.int .i64 (lv:Int)∧lv≤N+1∧k+gg=N∧Hid (lv=k+1)∧Hid (LK k L)∧Hid (∀ i:Nat,i∈M↔i<N+1∧amt L i=(k:Int))∧M.length≤N+1∧Hid (LvSt wr (z+2) g bl z (z+1) (N+1) L VW W VM M)∧Hid (RBox wr lb lo hi (N+1) VS U)∧Hid (Below w.heap.size w wr))
 case atStart=>exact ⟨0,1,_,_,_,_,[S],rfl,by omega,by omega,hid rfl,hid TL.out.start,hid TL.out.met0,by simp,HST3,HX3,HB3⟩
 case round =>
  obtain ⟨k,lv,L,VW,W,VM,M,rfl,hlv,hkg,HLV,HK,HMM,hml,HST,HXW,HBW⟩:=hrel
  by_cases hM:M=[]
  ·subst hM
   have HE:=hid (TL.out.fin k L HK.out (fun i hi e=>by have:=(HMM.out i).2 ⟨hi,e⟩;simp at this))
   have TU:=hid (lturn_any wr HST.out)
   rw [show decide (0<([]:List Nat).length)=false from rfl] at TU
   go_wp2_with fail
   refine TU.out.mono ?_
   rintro e w5 ⟨rfl,hfr,VM5,hst⟩
   have c0:=hst.boxL.cell
   have HG:=hid hst.row
   have HB5:=hid (HFRB.out _ _ hfr HBW.out)
   clear hst hfr
   go_wp2
   go_ret
   exact ⟨g,L,rfl,HE.out,HG.out,HB5.out⟩
  have hMl:0<M.length:=List.length_pos_iff.2 hM
  have hkN:k<N:=by
   obtain ⟨h1,h2⟩:=(HMM.out _).1 (List.getElem_mem hMl)
   exact TL.out.lt k L _ HK.out h1 h2
  have TU:=hid (lturn_any wr HST.out)
  rw [show decide (0<M.length)=true by simpa using hMl] at TU
  have HMD:=hid (mid_start TL.out HK.out HMM.out)
  have HME:=hid (fun L2 M2 (h:Mid N k U LM M L M.length L2 M2)=>mid_end TL.out h HMM.out)
  have HMG:=hid (fun p (h:p<M.length)=>getD_mem h)
  have HMN:=hid (fun i (h:i∈M)=>((HMM.out i).1 h).1)
  have HMC:=hid (fun p (h:p<M.length)=>encW_at (l:=M) h)
  have HML:=hid (encW_len M)
  clear hM HK HMM
  obtain ⟨P,hP⟩:∃ P,P=M.length:=⟨_,rfl⟩
  rw [← hP] at hml hMl HME HMG HMC HML
  have HPL:=hid hP
  clear hP
  go_wp2_with fail
  refine TU.out.mono ?_
  rintro e w5 ⟨rfl,hfr,VM5,hst⟩
  obtain ⟨ow,cw,hvm,_⟩:=lvst_mem hst
  rw [← HPL.out] at hvm
  subst hvm
  have c0:=hst.boxW.cell
  have HST5:=hid hst
  have HX5:=hid (HFRX.out _ _ hfr HXW.out)
  have HB5:=hid (HFRB.out _ _ hfr HBW.out)
  clear hst hfr TU HXW HBW
  go_wp2
  clear c0
  go_loopg [36] P (fun g2 i wy=>∃ (p:Nat) (L2:List Int) (VM2:Value) (M2:List Nat),i=.int .i64 p∧p+g2=P∧Hid (Mid N k U LM M L p L2 M2)∧Hid (LvSt wy (z+2) g bl z (z+1) (N+1) L2 (.slice ow P cw) M VM2 M2)∧Hid (RBox wy lb lo hi (N+1) VS U)∧Hid (Below w.heap.size w wy))
  case atStart=>exact ⟨0,L,VM5,[],rfl,by omega,HMD,HST5,HX5,HB5⟩
  case round =>
   obtain ⟨p,L2,VM2,M2,rfl,hpg,HM2,HST2,HX2,HB2⟩:=hrel
   by_cases hlt:p<P
   ·have hpi:(p:Int)<(P:Int):=by omega
    have hp0:(0:Int)≤(p:Int):=by omega
    obtain ⟨o',c',hv',hir⟩:=lvst_mem HST2.out
    rw [← HPL.out] at hv'
    simp only [Value.slice.injEq] at hv'
    obtain ⟨rfl,-,rfl⟩:=hv'
    obtain ⟨b1,off1,rfl,hb1,d0⟩:=irow_cell hir (i:=p) (by rw [HML.out];exact hlt)
    rw [HMC.out p hlt] at d0
    obtain ⟨v,hv⟩:∃ v,M.getD p 0=v:=⟨_,rfl⟩
    rw [hv] at d0
    have HV:=hid hv
    have HVM:=hid (show v∈M by rw [← hv];exact HMG.out p hlt)
    have hvn:=HMN.out v HVM.out
    have hvi:(v:Int)<(N:Int)+1:=by omega
    have hv0:(0:Int)≤(v:Int):=by omega
    obtain ⟨A,c,hVS,hlc,hcm,_⟩:=HX2.out.each v hvn
    have HVS:=hid hVS
    have e0:=HX2.out.cell hvn
    rw [hVS] at e0
    have HIE:=hid (fun L3 M3 (h:Inn N k U LM M L p v (U v).length L3 M3)=>inn_end h HV.out)
    have HIH:=hid (fun (q t:Nat) L3 M3 (h:Inn N k U LM M L p v q L3 M3) hq ht h1 h2=>inn_hit (t:=t) TL.out h HVM.out hq ht HLV.out h1 h2)
    have HIM:=hid (fun (q t:Nat) L3 M3 (h:Inn N k U LM M L p v q L3 M3) hq ht h1=>inn_miss (t:=t) TL.out h hq ht h1)
    have HTB:=hid (fun q (h:q<(U v).length)=>TL.out.bd v _ (getD_mem h))
    have HIN:=hid (inn_start (v:=v) HM2.out)
    obtain ⟨Q,hQ⟩:∃ Q,Q=(U v).length:=⟨_,rfl⟩
    rw [← hQ] at e0 HVS hlc HIE HIH HIM HTB
    have HQ:=hid hQ
    have HLE:=hid (show Q≤9223372036854775807 by unfold maxLen at hcm;omega)
    clear hv hVS hcm hlc hQ hir HM2
    go_wp2
    clear d0 e0
    go_loopg [45] Q (fun g3 i wx=>∃ (q:Nat) (L3:List Int) (VM3:Value) (M3:List Nat),i=.int .i64 q∧q+g3=Q∧Hid (Inn N k U LM M L p v q L3 M3)∧Hid (LvSt wx (z+2) g bl z (z+1) (N+1) L3 (.slice (some ⟨b1,off1,none⟩) P cw) M VM3 M3)∧Hid (RBox wx lb lo hi (N+1) VS U)∧Hid (Below w.heap.size w wx))
    case atStart=>exact ⟨0,L2,VM2,M2,rfl,by omega,HIN,HST2,HX2,HB2⟩
    case round =>
     obtain ⟨q,L3,VM3,M3,rfl,hqg,HI3,HST3,HX3,HB3⟩:=hrel
     by_cases hlq:q<Q
     ·have hqi:(q:Int)<(Q:Int):=by omega
      have hq0:(0:Int)≤(q:Int):=by omega
      have hQL:=HLE.out
      obtain ⟨b2,off2,rfl,hb2,d1⟩:=rbox_at HX3.out hvn HVS.out (q:=q) (by rw [← HQ.out];exact hlq)
      have htb:=HTB.out q hlq
      obtain ⟨t,ht⟩:∃ t,(U v).getD q 0=t:=⟨_,rfl⟩
      rw [ht] at d1 htb
      have HH:=hid (fun h1=>HIH.out q t L3 M3 HI3.out hlq ht h1 HST3.out.len)
      have HMI:=hid (fun h1=>HIM.out q t L3 M3 HI3.out hlq ht h1)
      have HM3:=hid (show M3.length≤1000000 by have:=(TL.out.mt k L3 M3 HI3.out.1.1).2;omega)
      have h64:in64 (lv:Int):=by unfold in64;omega
      clear ht
      go_wp2_with fail
      refine (meet_any _ HST3.out (v:=t) htb (lv:Int) h64 HM3.out).mono ?_
      rintro e w6 ⟨rfl,hfr,hy,hn⟩
      have HX6:=hid (HFRX.out _ _ hfr HX3.out)
      have HB6:=hid (HFRB.out _ _ hfr HB3.out)
      have hrl:∃ (L4:List Int) (VM4:Value) (M4:List Nat),Inn N k U LM M L p v (q+1) L4 M4∧LvSt w6 (z+2) g bl z (z+1) (N+1) L4 (.slice (some ⟨b1,off1,none⟩) P cw) M VM4 M4:=by
       by_cases hc:amt L3 t = -1
       ·obtain ⟨VM6,hst⟩:=hy hc
        exact ⟨_,VM6,_,HH.out hc,hst⟩
       ·exact ⟨_,VM3,_,HMI.out hc,hn hc⟩
      obtain ⟨L4,VM4,M4,h4,h5⟩:=hrl
      have H4:=hid h4
      have H5:=hid h5
      clear hy hn hfr h4 h5
      go_wp2
      go_roundg (Q-(q+1))
      case measure=>omega
      case rel=>exact ⟨q+1,L4,VM4,M4,by go_num,by omega,H4,H5,HX6,HB6⟩
     ·have eq:q=Q:=by omega
      subst eq
      have HMN2:=hid (HIE.out L3 M3 HI3.out)
      clear hlq
      go_wp2
      go_roundg (P-(p+1))
      case measure=>omega
      case rel=>exact ⟨p+1,L3,VM3,M3,by go_num,by omega,HMN2,HST3,HX3,HB3⟩
   ·have ep:p=P:=by omega
    subst ep
    obtain ⟨h1,h2,h3⟩:=HME.out L2 M2 HM2.out
    have H1:=hid h1
    have H2:=hid h2
    clear h1 h2 hlt
    have hlv2:=HLV.out
    have hwl:IntKind.i64.wrap ((lv:Int)+1)=((lv+1:Nat):Int):=by rw [IntKind.wrap_i64];omega
    have HLV2:=hid (show lv+1=(k+1)+1 by omega)
    have hlv3:lv+1≤N+1:=by omega
    clear hlv2
    go_wp2
    go_roundg (N-(k+1))
    case measure=>omega
    case rel=>exact ⟨k+1,lv+1,L2,_,M,VM2,M2,rfl,hlv3,by omega,HLV2,H1,H2,h3,HST2,HX2,HB2⟩
end Ne
end Go.Proofs.YthhlfphnokdfaaaGreat
