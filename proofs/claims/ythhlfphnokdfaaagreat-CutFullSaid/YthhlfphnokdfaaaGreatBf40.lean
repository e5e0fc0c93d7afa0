/-
  Lw8, Lwt, Phs, Glv, Dnb
-/
import Derived.Test.YthhlfphnokdfaaaGreatBf39
import Derived.Test.YthhlfphnokdfaaaGreatBf38
import Derived.Test.YthhlfphnokdfaaaGreatBf6
import Derived.Test.YthhlfphnokdfaaaGreatBf37
import Derived.Test.YthhlfphnokdfaaaGreatBf5
import Derived.RegionTactic
import Derived.BigRegion
set_option linter.unusedVariables false
set_option linter.unusedSimpArgs false
set_option maxRecDepth 100000
set_option maxHeartbeats 4000000
namespace Go.Proofs.YthhlfphnokdfaaaGreat
open Go.ChangeShapes Go.WideShapes Go.ChangeAt Go.RowKit
open Lib (hid)
namespace Ne
section
variable {n:Net} {TL:List Nat} {L:List Int} {x:Int} {f g:List Int} {W:List (List Nat × Int)}
theorem least_pos (hx:1≤x) {R:List Nat} {a:Int} {s t:Int} (h1:FirstW n.l TL f x t s R) (h2:Least n.l f R a):x≤a:=by
 obtain ⟨r,hr,e⟩:=h2.one
 have:=(wlk_mem (firstW_wlk h1) r hr).2
 omega
theorem blkW_flow (hR:Right n) (hL:Lds n.l L TL) (hx:1≤x) (hF:Flow n f) (b:BlkW n.l TL x n.s n.t f W g):Flow n g∧exc n.l g n.t=exc n.l f n.t+(W.map (·.2)).sum:=by
 obtain ⟨s,hs⟩:∃ s,s=n.s:=⟨_,rfl⟩
 obtain ⟨t,ht⟩:∃ t,t=n.t:=⟨_,rfl⟩
 rw [← hs,← ht] at b
 induction b with
 | nil f=>exact ⟨hF,by simp⟩
 | @cons f g h R a W h1 h2 h3 _ ih =>
  have ha:=least_pos hx h1 h2
  obtain ⟨k1,k2⟩:=push_flow hR hF (by omega) (first_walk hL (by rw [hs,ht] at h1;exact h1)) h3
  obtain ⟨m1,m2⟩:=ih k1
  refine ⟨m1,?_⟩
  rw [m2,k2,List.map_cons,List.sum_cons]
  omega
theorem blk_of (hR:Right n) (hF:Okf n f) (hx:1≤x) (L:List Int):∃ W g,IsBlk n.l (leadL n.l f x L (2*n.l.length)) f x n.s n.t W g :=
 blk_exists (lds_of n.l f x L) hR.ne hx _ f hF.len (Nat.le_refl _)
theorem blk_some (hR:Right n) (hL:IsLev n f x L) (hB:IsBlk n.l (leadL n.l f x L (2*n.l.length)) f x n.s n.t W g):W≠[]↔0≤amt L n.t.toNat:=by
 rw [sink_walk hR hL]
 rcases blkW_inv hB.1 with ⟨rfl,rfl⟩ | ⟨R,a,V,g1,rfl,h1,_⟩
 ·exact ⟨fun h=>absurd rfl h,fun ⟨R,hW⟩=>absurd hW (hB.2 R)⟩
 ·exact ⟨fun _=>⟨R,firstW_wlk h1⟩,fun _ h=>by cases h⟩
theorem blk_far (hR:Right n) (hF:Okf n f) (hx:1≤x) (hL:IsLev n f x L) (hB:IsBlk n.l (leadL n.l f x L (2*n.l.length)) f x n.s n.t W g) {L2:List Int} (h2:IsLev n g x L2) (h0:0≤amt L2 n.t.toNat):0≤amt L n.t.toNat∧amt L n.t.toNat<amt L2 n.t.toNat :=
 sink_farther hR hL (blkW_facts (lds_of n.l f x L) hx hF.len hB.1).1 hB.2 h2 h0
theorem blk_len (hF:Okf n f) (hx:1≤x) (hB:IsBlk n.l (leadL n.l f x L (2*n.l.length)) f x n.s n.t W g):g.length=n.l.length∧W.length≤(leadL n.l f x L (2*n.l.length)).length:=by
 have h:=blkW_facts (lds_of n.l f x L) hx hF.len hB.1
 have h2:=left_le n.l (leadL n.l f x L (2*n.l.length)) x f
 exact ⟨h.1.len,by omega⟩
end
section
variable {n:Net} (ao:Option Addr) (cap:Nat) (fo:Option Addr) (fc:Nat) {f:List Int} (w:World) (ck:checkN n=0) (hr:ARow w ao n.l) (hf:IRow w fo f) (hF:Okf n f) (x:Int) (hx:1≤x) {L:List Int} (hL:IsLev n f x L)
include ck hr hf hF hx hL
end
end Ne
namespace Ne
end Ne
end Go.Proofs.YthhlfphnokdfaaaGreat
namespace Go.Proofs.YthhlfphnokdfaaaGreat
namespace Ne
inductive Phs (n:Net) (x:Int):List Int→List Int→Nat→Nat→Prop
 | done {f L:List Int}:IsLev n f x L→amt L n.t.toNat<0→Phs n x f f 0 0
 | step {f g h L:List Int} {W:List (List Nat × Int)} {p k:Nat}:IsLev n f x L→0≤amt L n.t.toNat→IsBlk n.l (leadL n.l f x L (2*n.l.length)) f x n.s n.t W g→Phs n x g h p k→Phs n x f h (p+1) (W.length+k)
section
variable {n:Net} {TL:List Nat} {L:List Int} {x:Int} {f g h:List Int} {W:List (List Nat × Int)}
theorem blkW_okf (hR:Right n) (hL:Lds n.l L TL) (hx:1≤x) (hF:Okf n f) (b:BlkW n.l TL x n.s n.t f W g):Okf n g:=by
 obtain ⟨s,hs⟩:∃ s,s=n.s:=⟨_,rfl⟩
 obtain ⟨t,ht⟩:∃ t,t=n.t:=⟨_,rfl⟩
 rw [← hs,← ht] at b
 induction b with
 | nil f=>exact hF
 | @cons f g h R a W h1 h2 h3 _ ih =>
  have ha:=least_pos hx h1 h2
  exact ih (okf_push hR hF (by omega) (first_walk hL (by rw [hs,ht] at h1;exact h1)) h3).1
theorem snk_bd (hR:Right n) (hL:IsLev n f x L):-1≤amt L n.t.toNat∧amt L n.t.toNat<n.n∧amt L n.t.toNat≠0:=by
 have ht0:=hR.t0;have ht1:=hR.t1
 obtain ⟨h1,h2⟩:=lev_lt hR hL (i:=n.t.toNat) (by omega)
 refine ⟨h1,h2,fun e=>?_⟩
 have h3:=lev_only hR hL (i:=n.t.toNat) (by omega) e
 have:=hR.ne
 omega
theorem phs_far (hR:Right n) (hx:1≤x):∀ (d:Nat) (f L:List Int),Okf n f→IsLev n f x L→(n.n≤amt L n.t.toNat+(d:Int)∨amt L n.t.toNat<0)→∃ h p k,Phs n x f h p k
 | 0,f,L,hF,hL,hd=>by
  have:=snk_bd hR hL
  rcases hd with hd | hd
  ·omega
  ·exact ⟨f,0,0,.done hL hd⟩
 | d+1,f,L,hF,hL,hd=>by
  by_cases c:amt L n.t.toNat<0
  ·exact ⟨f,0,0,.done hL c⟩
  ·obtain ⟨W,g,hB⟩:=blk_of hR hF hx L
   obtain ⟨L2,hl2⟩:=lev_exists hR g x
   have hG:=blkW_okf hR (lds_of n.l f x L) hx hF hB.1
   obtain ⟨h,p,k,hp⟩:=phs_far hR hx d g L2 hG hl2 (by
    by_cases c2:0≤amt L2 n.t.toNat
    ·have:=(blk_far hR hF hx hL hB hl2 c2).2
     left
     rcases hd with hd | hd <;> omega
    ·right;omega)
   exact ⟨h,p+1,W.length+k,.step hL (by omega) hB hp⟩
theorem phs_exists (hR:Right n) (hx:1≤x) (hF:Okf n f):∃ h p k,Phs n x f h p k:=by
 obtain ⟨L,hL⟩:=lev_exists hR f x
 have:=snk_bd hR hL
 exact phs_far hR hx (n.n.toNat+1) f L hF hL (by left;omega)
theorem phs_okf (hR:Right n) (hx:1≤x) {p k:Nat} (a:Phs n x f h p k) (hF:Okf n f):Okf n h∧∃ L,IsLev n h x L∧amt L n.t.toNat<0:=by
 induction a with
 | done hL hd=>exact ⟨hF,_,hL,hd⟩
 | @step f g h L W p k hL hd hB _ ih=>exact ih (blkW_okf hR (lds_of n.l f x L) hx hF hB.1)
theorem phs_flow (hR:Right n) (hx:1≤x) {p k:Nat} (a:Phs n x f h p k) (hF:Flow n f):Flow n h:=by
 induction a with
 | done hL hd=>exact hF
 | @step f g h L W p k hL hd hB _ ih=>exact ih (blkW_flow hR (lds_of n.l f x L) hx hF hB.1).1
theorem phs_few (hR:Right n) (hx:1≤x) {p k:Nat} (a:Phs n x f h p k):Okf n f→∀ L,IsLev n f x L→p≤k∧(p=0↔amt L n.t.toNat<0)∧(0<p→(p:Int)+amt L n.t.toNat≤n.n):=by
 induction a with
 | done hL hd =>
  intro hF L2 hL2
  have:=lev_one hR hL hL2
  subst this
  exact ⟨Nat.le_refl _,⟨fun _=>hd,fun _=>rfl⟩,fun h=>absurd h (by omega)⟩
 | @step f g h L W p k hL hd hB q ih =>
  intro hF L2 hL2
  have:=lev_one hR hL hL2
  subst this
  have hG:=blkW_okf hR (lds_of n.l f x L) hx hF hB.1
  obtain ⟨L3,hl3⟩:=lev_exists hR g x
  obtain ⟨i1,i2,i3⟩:=ih hG L3 hl3
  have hW:=(blk_some hR hL hB).2 hd
  have hW1:1≤W.length:=by
   rcases W with _ | ⟨a,V⟩
   ·exact absurd rfl hW
   ·simp
  have hb:=snk_bd hR hL
  refine ⟨by omega,⟨fun e=>absurd e (by omega),fun e=>by omega⟩,fun _=>?_⟩
  by_cases c:p=0
  ·subst c
   omega
  ·have h3:=i3 (by omega)
   have h4:¬ amt L3 n.t.toNat<0:=fun e=>c (i2.2 e)
   have:=(blk_far hR hF hx hL hB hl3 (by omega)).2
   omega
theorem phs_lt (hR:Right n) (hx:1≤x) {p k:Nat} (a:Phs n x f h p k) (hF:Okf n f):(p:Int)<n.n∧p≤k:=by
 obtain ⟨L,hL⟩:=lev_exists hR f x
 obtain ⟨h1,h2,h3⟩:=phs_few hR hx a hF L hL
 have hb:=snk_bd hR hL
 refine ⟨?_,h1⟩
 by_cases c:p=0
 ·have:=hR.n0;omega
 ·have:=h3 (by omega)
  have h4:¬ amt L n.t.toNat<0:=fun e=>c (h2.2 e)
  omega
theorem phs_top (hR:Right n) {p k:Nat} (a:Phs n 1 f h p k) (hF:Flow n f):Top n (exc n.l h n.t):=by
 obtain ⟨_,L,hL,hd⟩:=phs_okf hR (by omega) a hF.okf
 exact ⟨h,L,phs_flow hR (by omega) a hF,hL,hd,rfl⟩
theorem phs_walks (hR:Right n) (hx:1≤x) {p k:Nat} (a:Phs n x f h p k) (hF:Okf n f):k≤p*(2*n.l.length):=by
 induction a with
 | done=>omega
 | @step f g h L W p k hL hd hB q ih =>
  have:=ih (blkW_okf hR (lds_of n.l f x L) hx hF hB.1)
  have h1:=(blk_len hF hx hB).2
  have h2:=leadL_len n.l f x L (2*n.l.length)
  rw [Nat.add_mul,Nat.one_mul]
  omega
end
end Ne
end Go.Proofs.YthhlfphnokdfaaaGreat
namespace Go.Proofs.YthhlfphnokdfaaaGreat
open Go.ChangeShapes Go.WideShapes Go.ChangeAt Go.RowKit
open Lib (hid)
namespace Ne
section
variable (n:Net) (ao:Option Addr) (cap:Nat) (fo:Option Addr) (fc:Nat) (f:List Int) (x:Int) (L0:List Int) (w:World) (hr:ARow w ao n.l) (hf:IRow w fo f) (hl:n.l.length≤1000000) (hok:∀ a∈n.l,in64 a.cap) (hL:reE n f x=0→IsLev n f x L0)
include hr hf hl hok hL
theorem dlevels_any:Calls Tryz.prog 46 #[encN n ao cap,.slice fo f.length fc,.int .i64 x] w fun e w'=>∃ o c,e=.returned (.tuple #[.slice o (lvV n f x L0).length c,.int .i64 (reE n f x)])∧IRow w' o (lvV n f x L0)∧Below w.heap.size w w':=by
 have WD:=hid (fun w' (h1:ARow w' ao n.l) (h2:IRow w' fo f)=>wide_any n ao cap fo fc f x w' h1 h2 hl hok)
 by_cases c0:reE n f x=0
 case neg =>
  rw [(lvV_bad (L:=L0) c0).1]
  generalize wideV n f x=WV at *
  generalize reE n f x=E at *
  clear hL
  generalize f.length=fl at *
  obtain ⟨nn,ns,nt,l⟩:=n
  simp only at hr WD ⊢
  have HB0:=hid ((Below.refl w.heap.size w).alloc (Nat.le_refl _) (.cells #[.int .i64 nn,.int .i64 ns,.int .i64 nt,.slice ao l.length cap] 27))
  have HR:=hid (hr.kept HB0.out)
  have HF:=hid (hf.kept HB0.out)
  have c1':(E == 0)=false:=by simpa using c0
  have c1n:(E != 0)=true:=by simpa using c0
  clear hr hf c0
  go_enter Tryz.func46,Tryz.ntmps46
  go_wp2_with fail
  refine (WD.out _ HR.out HF.out).mono ?_
  rintro e w1 ⟨v,rfl,_,hb⟩
  have HB1:=hid (HB0.out.trans (hb.mono (by simp)))
  clear hb
  go_wp2
  go_ret2
  exact ⟨none,0,rfl,.inl rfl,HB1.out⟩
 obtain ⟨hc0,hx1⟩:=reE_ok c0
 have hR:=right_of (chkA_ok (chkF_ok hc0).1).1
 rw [(lvV_ok (L:=L0) c0).1,c0]
 rw [c0,show wideV n f x=wideL n.l f x (2*n.l.length) by unfold wideV;rw [if_neg (by simpa using c0)]] at WD
 have HLL:=hid (hL c0).len
 have HL0:=hid (fun L (h:IsLev n f x L)=>lev_one hR h (hL c0))
 have LV:=hid (fun tk tc w' h1 h2=>levels_any n ao cap tk tc f x w' h1 h2 hR)
 have HTL:=hid (encW_len (wideL n.l f x (2*n.l.length)))
 generalize hIL:IsLev n f x=IL at *
 generalize encW (wideL n.l f x (2*n.l.length))=TW at *
 generalize (wideL n.l f x (2*n.l.length)).length=tl at *
 clear hIL hL c0 hc0 hx1 hR
 generalize f.length=fl at *
 obtain ⟨nn,ns,nt,l⟩:=n
 simp only at hr WD LV HLL ⊢
 have HB0:=hid ((Below.refl w.heap.size w).alloc (Nat.le_refl _) (.cells #[.int .i64 nn,.int .i64 ns,.int .i64 nt,.slice ao l.length cap] 27))
 have HN0:=hid (netBox_new w nn ns nt (.slice ao l.length cap))
 have HR:=hid (hr.kept HB0.out)
 have HF:=hid (hf.kept HB0.out)
 clear hr hf
 go_enter Tryz.func46,Tryz.ntmps46
 go_wp2_with fail
 refine (WD.out _ HR.out HF.out).mono ?_
 rintro e w1 ⟨v,rfl,ho,hb⟩
 have HB1:=hid (HB0.out.trans (hb.mono (by simp)))
 have HN1:=hid (netBox_below HN0.out hb (by simp))
 have HR1:=hid (HR.out.kept hb)
 obtain ⟨to1,tc1,hv,_,_,_,hri,_,_⟩:=Rw.own_row encI_len ho
 rw [HTL.out] at hv
 subst hv
 have HRI:=hid hri
 obtain ⟨n0,n1,n2,n3⟩:=netBox_cells HN1.out
 clear hb ho hri HB0 HN0 HR HF WD
 go_wp2_with fail
 refine (LV.out _ _ _ HR1.out HRI.out).mono ?_
 rintro e w2 ⟨g,L,rfl,hl1,hm,hb⟩
 have HB2:=hid (HB1.out.trans (hb.mono HB1.out.size))
 have HE:=hid (HL0.out L hl1)
 have HM:=hid hm
 clear hb hl1 hm n0 n1 n2 n3
 go_wp2
 go_ret2
 exact ⟨some ⟨g,0,none⟩,nn.toNat+1,by rw [HLL.out];rfl,by rw [← HE.out];exact HM.out.irow,HB2.out⟩
end
section
variable (n:Net) (ao:Option Addr) (cap:Nat) (fo:Option Addr) (fc:Nat) (f:List Int) (x:Int) (L0:List Int) (w:World) (hr:ARow w ao n.l) (hf:IRow w fo f) (hl:n.l.length≤1000000) (hok:∀ a∈n.l,in64 a.cap) (hL:reE n f x=0→IsLev n f x L0)
include hr hf hl hok hL
theorem ddeep_any:Calls Tryz.prog 35 #[encN n ao cap,.slice fo f.length fc,.int .i64 x] w fun e w'=>e=.returned (.tuple #[.int .i64 (dpV n f x L0),.int .i64 (reE n f x)])∧Below w.heap.size w w':=by
 have WD:=hid (fun w' (h1:ARow w' ao n.l) (h2:IRow w' fo f)=>dlevels_any n ao cap fo fc f x L0 w' h1 h2 hl hok hL)
 by_cases c0:reE n f x=0
 case neg =>
  rw [(lvV_bad (L:=L0) c0).2.2]
  generalize lvV n f x L0=WV at *
  generalize reE n f x=E at *
  clear hL
  generalize f.length=fl at *
  obtain ⟨nn,ns,nt,l⟩:=n
  simp only at hr WD ⊢
  have HB0:=hid ((Below.refl w.heap.size w).alloc (Nat.le_refl _) (.cells #[.int .i64 nn,.int .i64 ns,.int .i64 nt,.slice ao l.length cap] 27))
  have HR:=hid (hr.kept HB0.out)
  have HF:=hid (hf.kept HB0.out)
  have c1':(E == 0)=false:=by simpa using c0
  have c1n:(E != 0)=true:=by simpa using c0
  clear hr hf c0
  go_enter Tryz.func35,Tryz.ntmps35
  go_wp2_with fail
  refine (WD.out _ HR.out HF.out).mono ?_
  rintro e w1 ⟨o,c,rfl,_,hb⟩
  have HB1:=hid (HB0.out.trans (hb.mono (by simp)))
  clear hb
  go_wp2
  go_ret2
  exact ⟨rfl,HB1.out⟩
 obtain ⟨hc0,hx1⟩:=reE_ok c0
 have hR:=right_of (chkA_ok (chkF_ok hc0).1).1
 rw [(lvV_ok (L:=L0) c0).2.2,c0]
 rw [c0,(lvV_ok (L:=L0) c0).1] at WD
 have HLL:=hid (hL c0).len
 rw [HLL.out] at WD
 have hN0:=hR.n0
 have hN1:=hR.n1
 have hT0:=hR.t0
 have hT1:=hR.t1
 clear hL c0 hc0 hx1 hR
 generalize f.length=fl at *
 obtain ⟨nn,ns,nt,l⟩:=n
 simp only at hr WD HLL hN0 hN1 hT0 hT1 ⊢
 obtain ⟨N,rfl⟩:∃ N:Nat,nn=(N:Int):=⟨nn.toNat,by omega⟩
 obtain ⟨T,rfl⟩:∃ T:Nat,nt=(T:Int):=⟨nt.toNat,by omega⟩
 simp only [Int.toNat_natCast] at HLL WD ⊢
 have HB0:=hid ((Below.refl w.heap.size w).alloc (Nat.le_refl _) (.cells #[.int .i64 (N:Int),.int .i64 ns,.int .i64 (T:Int),.slice ao l.length cap] 27))
 have HN0:=hid (netBox_new w (N:Int) ns (T:Int) (.slice ao l.length cap))
 have HR:=hid (hr.kept HB0.out)
 have HF:=hid (hf.kept HB0.out)
 clear hr hf
 go_enter Tryz.func35,Tryz.ntmps35
 go_wp2_with fail
 refine (WD.out _ HR.out HF.out).mono ?_
 rintro e w1 ⟨o,c,rfl,hi,hb⟩
 have HB1:=hid (HB0.out.trans (hb.mono (by simp)))
 have HN1:=hid (netBox_below HN0.out hb (by simp))
 obtain ⟨n0,n1,n2,n3⟩:=netBox_cells HN1.out
 obtain ⟨b1,o1,rfl,_,d0⟩:=irow_cell hi (i:=T) (by rw [HLL.out];omega)
 have hti:(T:Int)<(N:Int)+1:=by omega
 have ht0:(0:Int)≤(T:Int):=by omega
 generalize hA:amt L0 T=a at *
 have HA:=hid hA
 clear hA hb hi HB0 HN0 HR HF WD
 go_wp2
 go_ret2
 exact ⟨by rw [HA.out];rfl,HB1.out⟩
end
end Ne
namespace Ne
def RunBox (w:World) (b:Nat) (v:Value) (p k s:Int):Prop:=w.heap[b]? = some (.cells #[v,.int .i64 p,.int .i64 k,.int .i64 s] 31 (0,0))
section
variable {w w2:World} {b B:Nat} {v v2:Value} {p k s p2 k2 s2:Int}
theorem runBox_cells (h:RunBox w b v p k s):w.cell? ⟨b,0,none⟩=some v∧w.cell? ⟨b,1,none⟩=some (.int .i64 p)∧w.cell? ⟨b,2,none⟩=some (.int .i64 k)∧w.cell? ⟨b,3,none⟩=some (.int .i64 s):=by
 unfold RunBox at h
 refine ⟨?_,?_,?_,?_⟩ <;> simp [World.cell?,h]
theorem runBox_frozen (h:RunBox w b v p k s) (o:Nat):w.frozen? ⟨b,o,none⟩=false:=by
 unfold RunBox at h;simp [World.frozen?,h]
theorem runBox_lt (h:RunBox w b v p k s):b<w.heap.size:=Rw.lt_of_heap h
theorem runBox_below (h:RunBox w b v p k s) (hb:Below B w w2) (hB:b<B):RunBox w2 b v p k s:=by
 unfold RunBox at *;rw [hb.block b hB];exact h
theorem runBox_alloc (h:RunBox w b v p k s) (o:Obj):RunBox (w.alloc o) b v p k s :=
 runBox_below h ((Below.refl _ _).alloc (Nat.le_refl _) o) (runBox_lt h)
theorem runBox_at (w:World) (hb:b=w.heap.size) (v:Value) (p k s:Int):RunBox (w.alloc (.cells #[v,.int .i64 p,.int .i64 k,.int .i64 s] 31)) b v p k s:=by
 subst hb;unfold RunBox;show (w.heap.push _)[w.heap.size]? = _;simp
theorem runBox_all (h:RunBox w b v p k s):RunBox ((((w.setCell ⟨b,0,none⟩ v2).setCell ⟨b,1,none⟩ (.int .i64 p2)).setCell ⟨b,2,none⟩ (.int .i64 k2)).setCell ⟨b,3,none⟩ (.int .i64 s2)) b v2 p2 k2 s2:=by
 unfold RunBox at *
 simp only [World.setCell,Array.getElem?_modify,h,if_true,Option.map_some]
 rfl
theorem runBox_own (h:RunBox w b v p k s) {B:Nat} {o:Option Addr} {n c:Nat} {l:List Int} (ho:OwnL w B (.slice o n c) l) (hb:b<B) (v2:Value) (p2 k2 s2:Int) :
  OwnL ((((w.setCell ⟨b,0,none⟩ v2).setCell ⟨b,1,none⟩ (.int .i64 p2)).setCell ⟨b,2,none⟩ (.int .i64 k2)).setCell ⟨b,3,none⟩ (.int .i64 s2)) B (.slice o n c) l:=by
 have hvb:=Rw.own_block ho
 exact Rw.own_set (Rw.own_set (Rw.own_set (Rw.own_set ho (p:=⟨b,0,none⟩) (fun h=>by have h2:=hvb _ h;simp only at h2;omega) v2) (p:=⟨b,1,none⟩) (fun h=>by have h2:=hvb _ h;simp only at h2;omega) (.int .i64 p2)) (p:=⟨b,2,none⟩) (fun h=>by have h2:=hvb _ h;simp only at h2;omega) (.int .i64 k2)) (p:=⟨b,3,none⟩) (fun h=>by have h2:=hvb _ h;simp only at h2;omega) (.int .i64 s2)
theorem below_all {B b:Nat} (h:Below B w w2) (hb:B≤b) (v2:Value) (p2 k2 s2:Int):Below B w ((((w2.setCell ⟨b,0,none⟩ v2).setCell ⟨b,1,none⟩ (.int .i64 p2)).setCell ⟨b,2,none⟩ (.int .i64 k2)).setCell ⟨b,3,none⟩ (.int .i64 s2)) :=
 (((h.setCell (p:=⟨b,0,none⟩) hb v2).setCell (p:=⟨b,1,none⟩) hb (.int .i64 p2)).setCell (p:=⟨b,2,none⟩) hb (.int .i64 k2)).setCell (p:=⟨b,3,none⟩) hb (.int .i64 s2)
end
def engV (q:Bool):Value:=.iface (if q then 92 else 91) (.agg #[])
def engB (q:Bool):FuncId:=if q then 92 else 79
theorem results_cell_one {P:Program} {fn:Func} {p u:Tmp} {ty:TypeId} (h:fn.results = #[.cell p ty,.tmp u]) (tmps:Array Value) (w:World) (g:Nat) (t:TypeId) (cs:Array Value) (fr:Nat × Nat) (d:TypeDesc)
  (hp:tmps.getD p undef=.pointer (some ⟨g,0,none⟩)) (hg:w.heap[g]? = some (.cells cs t fr))
  (hu:P.underlying ty=some d) (hd:(match d with | .struct _ | .array _ _=>true | _=>false)=true) (hi:(P.info? ty).map (·.size)=some cs.size) :
  (results fn tmps).run P w=.ok (.tuple #[.agg cs,tmps.getD u undef]) w:=by
 have hp':tmps[p]?.getD undef=.pointer (some ⟨g,0,none⟩):=by simpa using hp
 simp [results,h,hp',asAddr,run_loadVar_row w g t ty cs fr d hg hu hd hi]
theorem most_le {n:Net} (hR:Right n):mostV n≤10000000000:=by
 have h0:=hR.n0;have h1:=hR.n1;have h2:=hR.len
 obtain ⟨N,hN⟩:∃ N:Nat,n.n=(N:Int):=⟨n.n.toNat,by omega⟩
 obtain ⟨k,q,e1,_,h3,_,_,_⟩:=log_up N (by omega) (by omega)
 unfold mostV
 rw [hN,e1]
 obtain ⟨m,hm⟩:∃ m,m=n.l.length:=⟨_,rfl⟩
 rw [← hm] at h2 ⊢
 have a1:(N+m)*((2+k)*(2+k))≤2500*(11*11):=Nat.mul_le_mul (by omega) (Nat.mul_le_mul (by omega) (by omega))
 have e:(20000*((N:Int)+(m:Int))*(2+(k:Int))*(2+(k:Int)))=((20000*((N+m)*((2+k)*(2+k))):Nat):Int):=by
  rw [Int.natCast_mul,Int.natCast_mul,Int.natCast_mul,Int.natCast_add,Int.natCast_add,Int.mul_assoc,Int.mul_assoc];rfl
 rw [e]
 omega
def stM (n:Net) (q:Bool):Int:=if q then mostV n else 0
theorem phase_of (n:Net) (ao:Option Addr) (cap:Nat) (fo:Option Addr) (fc:Nat) (w:World) (x:Int) (q:Bool) (p k s:Int) (f g:List Int) (kW M:Int) (hr:ARow w ao n.l) (hf:IRow w fo f)
  (hp:0≤p∧p≤1000000) (hk:0≤k∧k≤100000000000) (hkW:0≤kW∧kW≤1000000) (hs:0≤s∧s≤1000000000000000) (hM:M≤10000000000)
  (BLK:∀ w',ARow w' ao n.l→IRow w' fo f→Calls Tryz.prog (engB q) #[.agg #[],encN n ao cap,.slice fo n.l.length fc,.int .i64 x] w' fun e w2=>∃ o c st,e=.returned (.tuple #[.slice o n.l.length c,.int .i64 kW,.int .i64 st,.int .i64 0])∧OwnL w2 w'.heap.size (.slice o n.l.length c) g∧0≤st∧st≤M∧Below w'.heap.size w' w2) :
  Calls Tryz.prog 38 #[encN n ao cap,.agg #[.slice fo n.l.length fc,.int .i64 p,.int .i64 k,.int .i64 s],.int .i64 x,engV q] w fun e w'=>∃ o c st,e=.returned (.tuple #[.agg #[.slice o n.l.length c,.int .i64 (p+1),.int .i64 (k+kW),.int .i64 (s+st)],.int .i64 0])∧OwnL w' w.heap.size (.slice o n.l.length c) g∧0≤st∧st≤M∧Below w.heap.size w w':=by
 have HBN:=hid (((Below.refl w.heap.size w).alloc (Nat.le_refl _) (.cells #[.int .i64 n.n,.int .i64 n.s,.int .i64 n.t,.slice ao n.l.length cap] 27)))
 have HB:=hid ((HBN.out.alloc (by simp) (.cells #[.slice fo n.l.length fc,.int .i64 p,.int .i64 k,.int .i64 s] 31)).alloc (by simp;omega) (.cells #[.slice none 0 0,.int .i64 0,.int .i64 0,.int .i64 0] 31))
 have HX:=hid (runBox_alloc (runBox_at (w.alloc (.cells #[.int .i64 n.n,.int .i64 n.s,.int .i64 n.t,.slice ao n.l.length cap] 27)) (b:=w.heap.size+1) (by simp) (.slice fo n.l.length fc) p k s) (.cells #[.slice none 0 0,.int .i64 0,.int .i64 0,.int .i64 0] 31))
 have HY:=hid (runBox_at ((w.alloc (.cells #[.int .i64 n.n,.int .i64 n.s,.int .i64 n.t,.slice ao n.l.length cap] 27)).alloc (.cells #[.slice fo n.l.length fc,.int .i64 p,.int .i64 k,.int .i64 s] 31)) (b:=w.heap.size+1+1) (by simp) (.slice none 0 0) 0 0 0)
 have BL:=hid (BLK _ (hr.kept HB.out) (hf.kept HB.out))
 have hp1:IntKind.i64.wrap (p+1)=p+1:=by rw [IntKind.wrap_i64];omega
 have hk1:IntKind.i64.wrap (k+kW)=k+kW:=by rw [IntKind.wrap_i64];omega
 have hw1:∀ (m:Nat) (w:World),(method (m+1) 91 (.agg #[]) "raceway/dinic.block").run Tryz.prog w=.ok (79,.agg #[]) w:=fun _ _=>by kernel_rfl
 have hw2:∀ (m:Nat) (w:World),(method (m+1) 92 (.agg #[]) "raceway/dinic.block").run Tryz.prog w=.ok (92,.agg #[]) w:=fun _ _=>by kernel_rfl
 clear BLK hr hf
 cases q
 all_goals
  unfold engV engB at *
  simp only [Bool.false_eq_true,if_false,if_true] at *
  go_enter Tryz.func38,Tryz.ntmps38
  go_wp2_with fail
  refine BL.out.mono ?_
  rintro e w1 ⟨o,c,st,rfl,hi,h1,h2,hb⟩
  have hs1:IntKind.i64.wrap (s+st)=s+st:=by rw [IntKind.wrap_i64];omega
  have X1:=runBox_below HX.out hb (by simp)
  have Y1:=runBox_below HY.out hb (by simp)
  have HB1:=hid (HB.out.trans (hb.mono (by simp;omega)))
  have HO:=hid hi
  have HY1:=hid Y1
  have HS:=hid (show 0≤st∧st≤M from ⟨h1,h2⟩)
  obtain ⟨x0,x1,x2,x3⟩:=runBox_cells X1
  obtain ⟨y0,y1,y2,y3⟩:=runBox_cells Y1
  have f0:=runBox_frozen Y1 0
  have f1:=runBox_frozen Y1 1
  have f2:=runBox_frozen Y1 2
  have f3:=runBox_frozen Y1 3
  clear hb hi h1 h2 X1 Y1
  go_wp2
  refine bodyPost_ret_by (results_cell_one rfl _ _ (w.heap.size+1+1) 31 _ (0,0) _ rfl (runBox_all (v2:=.slice o n.l.length c) (p2:=p+1) (k2:=k+kW) (s2:=s+st) HY1.out) Tryz.underlying31 rfl (by kernel_rfl)) rfl ?_
  exact ⟨o,c,st,rfl,Rw.own_base (runBox_own HY1.out HO.out (by simp) _ _ _ _) (by simp;omega),HS.out.1,HS.out.2,below_all HB1.out (by omega) _ _ _ _⟩
section
variable {n:Net} (ao:Option Addr) (cap:Nat) (fo:Option Addr) (fc:Nat) {f:List Int} (w:World) (ck:checkN n=0) (hr:ARow w ao n.l) (hf:IRow w fo f) (hF:Okf n f) (x:Int) (hx:1≤x) {L:List Int} (hL:IsLev n f x L)
include ck hr hf hF hx hL
theorem deep_okf:Calls Tryz.prog 35 #[encN n ao cap,.slice fo n.l.length fc,.int .i64 x] w fun e w'=>e=.returned (.tuple #[.int .i64 (amt L n.t.toNat),.int .i64 0])∧Below w.heap.size w w':=by
 have e:reE n f x=0:=by unfold reE;rw [if_neg (by simpa using hF.chk ck),if_neg (by omega)]
 have h:=ddeep_any n ao cap fo fc f x L w hr hf (by have:=(right_of ck).len;omega) (cap_64 (right_of ck)) (fun _=>hL)
 rw [hF.len,e,(lvV_ok e).2.2] at h
 exact h
variable {W:List (List Nat × Int)} {g:List Int} (hB:IsBlk n.l (leadL n.l f x L (2*n.l.length)) f x n.s n.t W g)
include hB
theorem pblock_own:Calls Tryz.prog 80 #[encN n ao cap,.slice fo n.l.length fc,.int .i64 x] w fun e w'=>∃ o c v,e=.returned (.tuple #[.slice o n.l.length c,v,.int .i64 0])∧OwnL w' w.heap.size (.slice o n.l.length c) g∧WkR 138 w' w.heap.size v W∧Below w.heap.size w w':=by
 have e:reE n f x=0:=by unfold reE;rw [if_neg (by simpa using hF.chk ck),if_neg (by omega)]
 have h:=dblock_own n ao cap fo fc f x L W g w hr hf (by have:=(right_of ck).len;omega) (cap_64 (right_of ck)) (fun _=>hL) (fun _=>hB)
 have e1:blG n f x g=g:=by unfold blG;rw [if_neg (by simpa using e)]
 have e2:blW n f x W=W:=by unfold blW;rw [if_neg (by simpa using e)]
 rw [hF.len,e1,e2,(blk_len hF hx hB).1,e] at h
 exact h
theorem tblk_own:Calls Tryz.prog 93 #[encN n ao cap,.slice fo n.l.length fc,.int .i64 x] w fun e w'=>∃ o c st,e=.returned (.tuple #[.slice o n.l.length c,.int .i64 (W.length:Int),.int .i64 st,.int .i64 0])∧OwnL w' w.heap.size (.slice o n.l.length c) g∧0≤st∧st≤mostV n∧Below w.heap.size w w':=by
 have e:reE n f x=0:=by unfold reE;rw [if_neg (by simpa using hF.chk ck),if_neg (by omega)]
 have h:=tblock_own n ao cap fo fc f x L W g w hr hf (by have:=(right_of ck).len;omega) (cap_64 (right_of ck)) (fun _=>hL) (fun _=>hB)
 have e1:blG n f x g=g:=by unfold blG;rw [if_neg (by simpa using e)]
 have e2:blW n f x W=W:=by unfold blW;rw [if_neg (by simpa using e)]
 rw [hF.len,e1,e2,(blk_len hF hx hB).1,e] at h
 have hn0:=(right_of ck).n0
 refine h.mono ?_
 rintro e w' ⟨o,c,st,h1,h2,_,h3,h4⟩
 obtain ⟨_,k2,_,k4⟩:=h3 rfl
 exact ⟨o,c,st,h1,h2,by omega,k4,h4⟩
theorem bwalks_own:Calls Tryz.prog 79 #[.agg #[],encN n ao cap,.slice fo n.l.length fc,.int .i64 x] w fun e w'=>∃ o c,e=.returned (.tuple #[.slice o n.l.length c,.int .i64 (W.length:Int),.int .i64 0,.int .i64 0])∧OwnL w' w.heap.size (.slice o n.l.length c) g∧Below w.heap.size w w':=by
 have BC:=hid fun w' h1 h2=>pblock_own (n:=n) (f:=f) ao cap fo fc w' ck h1 h2 hF x hx hL hB
 have HB:=hid (((Below.refl w.heap.size w).alloc (Nat.le_refl _) (.cells #[] 91)).alloc (by simp) (.cells #[.int .i64 n.n,.int .i64 n.s,.int .i64 n.t,.slice ao n.l.length cap] 27))
 have HN:=hid (netBox_at (w.alloc (.cells #[] 91)) (b:=w.heap.size+1) (by simp) n.n n.s n.t (.slice ao n.l.length cap))
 have HR:=hid (hr.kept HB.out)
 have HF:=hid (hf.kept HB.out)
 clear hr hf hF hL hB ck
 obtain ⟨n0,n1,n2,n3⟩:=netBox_cells HN.out
 go_enter Tryz.func79,Tryz.ntmps79
 go_wp2_with fail
 refine (BC.out _ HR.out HF.out).mono ?_
 rintro e w1 ⟨o,c,v,rfl,hi,hv,hb⟩
 have HI:=hid hi
 have HB1:=hid (HB.out.trans (hb.mono (by simp;omega)))
 obtain ⟨o9,c9,rfl,_,_,_⟩:=hv.val
 clear hb hi hv n0 n1 n2 n3
 go_wp2
 refine bodyPost_ret (results_tmp4 rfl _ _ _) rfl ?_
 exact ⟨o,c,rfl,Rw.own_base HI.out (by simp;omega),HB1.out⟩
theorem btrees_own:Calls Tryz.prog 92 #[.agg #[],encN n ao cap,.slice fo n.l.length fc,.int .i64 x] w fun e w'=>∃ o c st,e=.returned (.tuple #[.slice o n.l.length c,.int .i64 (W.length:Int),.int .i64 st,.int .i64 0])∧OwnL w' w.heap.size (.slice o n.l.length c) g∧0≤st∧st≤mostV n∧Below w.heap.size w w':=by
 have BC:=hid fun w' h1 h2=>tblk_own (n:=n) (f:=f) ao cap fo fc w' ck h1 h2 hF x hx hL hB
 have HB:=hid (((Below.refl w.heap.size w).alloc (Nat.le_refl _) (.cells #[] 92)).alloc (by simp) (.cells #[.int .i64 n.n,.int .i64 n.s,.int .i64 n.t,.slice ao n.l.length cap] 27))
 have HN:=hid (netBox_at (w.alloc (.cells #[] 92)) (b:=w.heap.size+1) (by simp) n.n n.s n.t (.slice ao n.l.length cap))
 have HR:=hid (hr.kept HB.out)
 have HF:=hid (hf.kept HB.out)
 clear hr hf hF hL hB ck
 obtain ⟨n0,n1,n2,n3⟩:=netBox_cells HN.out
 go_enter Tryz.func92,Tryz.ntmps92
 go_wp2_with fail
 refine (BC.out _ HR.out HF.out).mono ?_
 rintro e w1 ⟨o,c,st,rfl,hi,s1,s2,hb⟩
 have HI:=hid hi
 have HS:=hid (show 0≤st∧st≤mostV n from ⟨s1,s2⟩)
 have HB1:=hid (HB.out.trans (hb.mono (by simp;omega)))
 clear hb hi n0 n1 n2 n3 s1 s2
 go_wp2
 refine bodyPost_ret (results_tmp4 rfl _ _ _) rfl ?_
 exact ⟨o,c,st,rfl,Rw.own_base HI.out (by simp;omega),HS.out.1,HS.out.2,HB1.out⟩
theorem phase_any (q:Bool) (p k s:Int) (hp:0≤p∧p≤1000000) (hk:0≤k∧k≤100000000000) (hs:0≤s∧s≤1000000000000000) :
  Calls Tryz.prog 38 #[encN n ao cap,.agg #[.slice fo n.l.length fc,.int .i64 p,.int .i64 k,.int .i64 s],.int .i64 x,engV q] w fun e w'=>∃ o c st,e=.returned (.tuple #[.agg #[.slice o n.l.length c,.int .i64 (p+1),.int .i64 (k+(W.length:Int)),.int .i64 (s+st)],.int .i64 0])∧OwnL w' w.heap.size (.slice o n.l.length c) g∧0≤st∧st≤stM n q∧Below w.heap.size w w':=by
 have hR:=right_of ck
 have h1:=(blk_len hF hx hB).2
 have h2:=leadL_len n.l f x L (2*n.l.length)
 have h3:=hR.len
 refine phase_of n ao cap fo fc w x q p k s f g W.length (stM n q) hr hf hp hk ⟨by omega,by omega⟩ hs ?_ fun w' g1 g2=>?_
 ·unfold stM
  have:=most_le hR
  split <;> omega
 ·cases q
  ·refine (bwalks_own ao cap fo fc w' ck g1 g2 hF x hx hL hB).mono ?_
   rintro e w2 ⟨o,c,h,h',h''⟩
   exact ⟨o,c,0,h,h',Int.le_refl _,Int.le_refl _,h''⟩
  ·exact btrees_own ao cap fo fc w' ck g1 g2 hF x hx hL hB
end
end Ne
end Go.Proofs.YthhlfphnokdfaaaGreat
