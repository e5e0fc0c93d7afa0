/-
  ShownD, Dlw, Fval, Flv, Opg, Open, Openc, Routed
-/
import Derived.Test.YtmikbkggjlbbnaaGreatBg43
import Derived.Test.YtmikbkggjlbbnaaGreatBg42
import Derived.Test.YtmikbkggjlbbnaaGreatBg5
import Derived.Test.YtmikbkggjlbbnaaGreatBg27
import Derived.Test.YtmikbkggjlbbnaaGreatRows
import Derived.WalkKit
import Derived.ProofKit
import Derived.OpenShut
import Derived.Deep.Slices
import Derived.Deep.Fields
import Derived.ChangeSame
import Derived.Lib.SmallJoins
import Derived.Test.YtmikbkggjlbbnaaGreatBg2
import Derived.Test.YtmikbkggjlbbnaaGreatBg28
import Derived.Test.YtmikbkggjlbbnaaGreatBg6
namespace Go.Proofs.YtmikbkggjlbbnaaGreat
open Go.ChangeShapes Go.WideShapes Go.ChangeAt Go.RowKit
open Lib (hid)
set_option linter.unusedVariables false
set_option linter.unusedSimpArgs false
namespace Ne
set_option maxRecDepth 100000 in
set_option maxHeartbeats 1000000 in
theorem shown_any (w:World):Calls Tryz.prog 9 #[] w fun e w'=>e=.returned (.bool true)∧Below w.heap.size w w':=by
 have hA:=arow_two w rfl ⟨1,2,5⟩ ⟨2,3,3⟩ 50
 have HB:=hid ((Below.refl w.heap.size w).alloc (Nat.le_refl _) (.cells #[.int .i64 1,.int .i64 2,.int .i64 5,.int .i64 2,.int .i64 3,.int .i64 3] 50))
 have C:=hid (max_flow (n:=net12) (some ⟨w.heap.size,0,none⟩) 2 _ net12_ck hA net12_phs false)
 rw [show net12.l.length=2 from rfl] at C
 unfold net12 engC at C
 simp only [Bool.false_eq_true,if_false] at C
 clear hA
 go_enter Tryz.func9,Tryz.ntmps9
 go_wp2_with fail
 refine C.out.mono ?_
 rintro e w1 ⟨o,c,st,rfl,hi,hs,_,_,hb⟩
 obtain rfl:=hs (by trivial)
 have HB1:=hid (HB.out.trans (hb.mono (by simp)))
 have HX:=hid (runBox_at w1 rfl (.slice o 2 c) 1 1 0)
 have hi2:=hi.kept ((Below.refl w1.heap.size w1).alloc (Nat.le_refl _) (.cells #[.slice o 2 c,.int .i64 1,.int .i64 1,.int .i64 0] 28))
 have HB2:=hid (HB1.out.alloc HB1.out.size (.cells #[.slice o 2 c,.int .i64 1,.int .i64 1,.int .i64 0] 28))
 obtain ⟨b0,o0,rfl,_,d0⟩:=irow_cell hi2 (i:=0) (by simp)
 obtain ⟨b1,o1,he1,_,d1⟩:=irow_cell hi2 (i:=1) (by simp)
 simp only [Option.some.injEq,Addr.mk.injEq,and_true] at he1
 obtain ⟨rfl,rfl⟩:=he1
 simp [amt] at d0 d1
 obtain ⟨y0,y1,y2,y3⟩:=runBox_cells HX.out
 clear hb hi hi2
 go_wp2
 go_ret
 exact ⟨rfl,HB2.out⟩
end Ne
end Go.Proofs.YtmikbkggjlbbnaaGreat
namespace Go.Proofs.YtmikbkggjlbbnaaGreat
set_option linter.unusedVariables false
set_option linter.unusedSimpArgs false
namespace Ne
theorem max_facts {n:Net} (hR:Right n):∃ (g L:List Int) (p k:Nat),Phs n 1 (List.replicate n.l.length 0) g p k∧Flow n g∧IsLev n g 1 L∧amt L n.t.toNat<0∧Top n (exc n.l g n.t)∧(p:Int)<n.n∧p≤k:=by
 have hF:=flow_nought hR
 obtain ⟨g,p,k,P⟩:=phs_exists hR (Int.le_refl 1) hF.okf
 obtain ⟨_,L,hL,hd⟩:=phs_okf hR (Int.le_refl 1) P hF.okf
 have h1:=phs_flow hR (Int.le_refl 1) P hF
 have h2:=phs_lt hR (Int.le_refl 1) P hF.okf
 exact ⟨g,L,p,k,P,h1,hL,hd,phs_top hR P hF,h2.1,h2.2⟩
theorem reach_top {n:Net} (hR:Right n) {g L:List Int} {M:List Bool} (hg:Flow n g) (hL:IsLev n g 1 L) (hd:amt L n.t.toNat<0) (hM:IsReach n g 1 M) :
  M.getD n.t.toNat false=false∧M.getD n.s.toNat false=true∧exc n.l g n.t=capP n.l (fun v:Int=>!(M.getD v.toNat false)):=by
 have ht:M.getD n.t.toNat false=false:=by
  have:=(sink_says hR hL hM).1
  rw [this];simpa using hd
 have hs:=hM.at_s
 refine ⟨ht,hs,?_⟩
 rw [flow_cut hR hg (P:=fun v:Int=>!(M.getD v.toNat false)) (by simp only [hs];rfl) (by simp only [ht];rfl),capP_eq]
 refine sumTo_congr fun i hi=>?_
 obtain ⟨w1,w2⟩:=hg.wi i hi
 have h1:=hM.closed (2*i) (by omega)
 have h2:=hM.closed (2*i+1) (by omega)
 rw [trF_even,trT_even,room_even] at h1
 rw [trF_odd,trT_odd,room_odd] at h2
 unfold cutA capT
 simp only
 rcases Bool.eq_false_or_eq_true (M.getD (arcAt n.l i).fr.toNat false) with c1 | c1 <;> rcases Bool.eq_false_or_eq_true (M.getD (arcAt n.l i).to.toNat false) with c2 | c2
 ·simp only [c1,c2];simp
 ·have:¬ 1≤(arcAt n.l i).cap-amt g i:=fun e=>by have:=h1 e c1;rw [c2] at this;cases this
  simp only [c1,c2]
  simp
  omega
 ·have:¬ 1≤amt g i:=fun e=>by have:=h2 e c2;rw [c1] at this;cases this
  have e0:amt g i=0:=by omega
  simp only [c1,c2]
  simp [e0]
 ·simp only [c1,c2];simp
theorem capP_take (l:List Arc) (P:Int→Bool) {j:Nat} (h:j<l.length):capP (l.take (j+1)) P=capP (l.take j) P+capT P (arcAt l j):=by
 have e:l.take (j+1)=l.take j ++ [arcAt l j]:=by
  rw [List.take_add_one,List.getElem?_eq_getElem h]
  have:arcAt l j=l[j]:=by simp [arcAt,List.getElem?_eq_getElem h]
  rw [this];rfl
 rw [e,capP_append,capP_cons,capP_nil];omega
theorem capP_bd {l:List Arc} {K:Int} (h:∀ a∈l,0≤a.cap∧a.cap≤K) (hK:0≤K) (P:Int→Bool):∀ j:Nat,0≤capP (l.take j) P∧capP (l.take j) P≤K*(j:Int)
 | 0=>by simp [capP_nil]
 | j+1=>by
  have ih:=capP_bd h hK P j
  by_cases c:j<l.length
  ·rw [capP_take l P c]
   have ha:arcAt l j∈l:=by
    have:arcAt l j=l[j]:=by simp [arcAt,List.getElem?_eq_getElem c]
    rw [this];exact List.getElem_mem c
   have hb:=h _ ha
   have hc:=capT_bd P (a:=arcAt l j) hb.1
   rw [Int.natCast_add,Int.mul_add]
   simp
   omega
  ·have e:l.take (j+1)=l.take j:=by rw [List.take_of_length_le (by omega),List.take_of_length_le (by omega)]
   rw [e,Int.natCast_add,Int.mul_add]
   simp
   omega
theorem arc_says {N:Nat} {l:List Arc} (h:∀ a∈l,fineA (N:Int) a) {j:Nat} (hj:j<l.length):∃ (u v:Nat) (ca:Int),arcAt l j=⟨(u:Int),(v:Int),ca⟩∧u≤N∧v≤N∧0≤ca∧ca≤1000000:=by
 have ha:arcAt l j∈l:=by
  have:arcAt l j=l[j]:=by simp [arcAt,List.getElem?_eq_getElem hj]
  rw [this];exact List.getElem_mem hj
 obtain ⟨h1,h2,h3,h4⟩:=h _ ha
 rw [isNode_at] at h1 h2
 exact ⟨(arcAt l j).fr.toNat,(arcAt l j).to.toNat,(arcAt l j).cap,by rw [Int.toNat_of_nonneg (by omega),Int.toNat_of_nonneg (by omega)],by omega,by omega,h3,h4⟩
theorem capT_met (M:List Bool) (u v:Nat) (ca:Int):capT (fun v:Int=>!(M.getD v.toNat false)) ⟨(u:Int),(v:Int),ca⟩=if M.getD u false=true∧M.getD v false=false then ca else 0:=by
 unfold capT
 simp only [Int.toNat_natCast]
 rcases Bool.eq_false_or_eq_true (M.getD u false) with c1 | c1 <;> rcases Bool.eq_false_or_eq_true (M.getD v false) with c2 | c2 <;> simp only [c1,c2] <;> simp
end Ne
end Go.Proofs.YtmikbkggjlbbnaaGreat
namespace Go.Proofs.YtmikbkggjlbbnaaGreat
open Go.ChangeShapes Go.WideShapes Go.ChangeAt Go.RowKit
open Lib (hid)
set_option linter.unusedVariables false
set_option linter.unusedSimpArgs false
namespace Ne
section
variable (n:Net) (ao:Option Addr) (cap:Nat) (fo:Option Addr) (fc:Nat) (f:List Int) (w:World) (hr:ARow w ao n.l) (hf:IRow w fo f) (hl:n.l.length≤1000000) (hok:∀ a∈n.l,in64 a.cap)
include hr hf hl hok
set_option maxRecDepth 100000 in
set_option maxHeartbeats 400000 in
theorem fval_any:Calls Tryz.prog 16 #[encN n ao cap,.slice fo f.length fc] w fun e w'=>e=.returned (.tuple #[.int .i64 (vaV n f),.int .i64 (chkF n f)])∧Below w.heap.size w w':=by
 have AM:=hid (fun w' (h1:ARow w' ao n.l) (h2:IRow w' fo f)=>fchk_any n ao cap fo fc f w' h1 h2 hl hok)
 by_cases c0:chkF n f=0
 case neg =>
  have HV:=hid (show vaV n f=0 by unfold vaV;rw [if_pos c0])
  generalize vaV n f=R at *
  generalize chkF n f=c at *
  generalize f.length=fl at *
  obtain ⟨nn,ns,nt,l⟩:=n
  simp only at hr AM ⊢
  have HB0:=hid ((Below.refl w.heap.size w).alloc (Nat.le_refl _) (.cells #[.int .i64 nn,.int .i64 ns,.int .i64 nt,.slice ao l.length cap] 24))
  have c1':(c == 0)=false:=by simpa using c0
  have c1n:(c != 0)=true:=by simpa using c0
  have HR:=hid (hr.kept HB0.out)
  have HF:=hid (hf.kept HB0.out)
  clear hr hf hok c0
  go_enter Tryz.func16,Tryz.ntmps16
  go_wp2_with fail
  refine (AM.out _ HR.out HF.out).mono ?_
  rintro e w1 ⟨rfl,hb⟩
  have HB1:=hid (HB0.out.trans (hb.mono (by simp)))
  clear hb
  go_wp2
  go_ret2
  exact ⟨ret2' HV.out.symm rfl,HB1.out⟩
 have HV:=hid (show vaV n f=exc n.l f n.t by unfold vaV;rw [if_neg (by simpa using c0)])
 have c1:=(chkF_ok c0).1
 have XS:=hid (fun w' (h1:ARow w' ao n.l) (h2:IRow w' fo f)=>excs_s n ao cap fo fc f w' h1 h2 c1)
 rw [c0] at AM ⊢
 obtain ⟨-,RT,-,-⟩:=chkA_ok c1
 have hN0:=RT.n0
 have hN1:=RT.n1
 have ht0:=RT.t0
 have ht1:=RT.t1
 clear RT c0 c1
 generalize vaV n f=R at *
 generalize f.length=fl at *
 obtain ⟨nn,ns,nt,l⟩:=n
 simp only at hr AM XS HV hN0 hN1 ht0 ht1 ⊢
 obtain ⟨N,rfl⟩:∃ N:Nat,nn=(N:Int):=⟨nn.toNat,by omega⟩
 obtain ⟨k,rfl⟩:∃ k:Nat,nt=(k:Int):=⟨nt.toNat,by omega⟩
 simp only [Int.toNat_natCast] at XS
 have HB0:=hid ((Below.refl w.heap.size w).alloc (Nat.le_refl _) (.cells #[.int .i64 (N:Int),.int .i64 ns,.int .i64 (k:Int),.slice ao l.length cap] 24))
 have HN0:=hid (netBox_new w (N:Int) ns (k:Int) (.slice ao l.length cap))
 have HR:=hid (hr.kept HB0.out)
 have HF:=hid (hf.kept HB0.out)
 clear hr hf hok
 have hk:k<N+1:=by omega
 have hki:(k:Int)<(N:Int)+1:=by omega
 have hk0:(0:Int)≤(k:Int):=by omega
 go_enter Tryz.func16,Tryz.ntmps16
 go_wp2_with fail
 refine (AM.out _ HR.out HF.out).mono ?_
 rintro e w1 ⟨rfl,hb⟩
 have HB1:=hid (HB0.out.trans (hb.mono (by simp)))
 have HN1:=hid (netBox_below HN0.out hb (by simp))
 have HR1:=hid (HR.out.kept hb)
 have HF1:=hid (HF.out.kept hb)
 obtain ⟨n0,n1,n2,n3⟩:=netBox_cells HN1.out
 have hnl:=netBox_lt HN1.out
 clear hb
 go_wp2
 have hS0:=(show (fun w'=>w'.cell? ⟨w.heap.size,0,none⟩=some (.int .i64 (N:Int))∧w'.cell? ⟨w.heap.size,1,none⟩=some (.int .i64 ns)∧w'.cell? ⟨w.heap.size,2,none⟩=some (.int .i64 (k:Int))∧w'.cell? ⟨w.heap.size,3,none⟩=some (.slice ao l.length cap)) w1.drew from ⟨n0,n1,n2,n3⟩)
 refine Rh.start (S:=(fun w'=>w'.cell? ⟨w.heap.size,0,none⟩=some (.int .i64 (N:Int))∧w'.cell? ⟨w.heap.size,1,none⟩=some (.int .i64 ns)∧w'.cell? ⟨w.heap.size,2,none⟩=some (.int .i64 (k:Int))∧w'.cell? ⟨w.heap.size,3,none⟩=some (.slice ao l.length cap))) (by kernel_rfl) ?_
 refine Rh.tk (some 13) (i:=0) (v:=?_) rfl (Or.inl ⟨by rfl,?_⟩) hS0 ?_
 rotate_left
 ·intro w hSw
  go_simp
  try with_reducible rfl
 try simp only [Act.put,Rh.q1,Rh.q2,Rh.q3]
 refine Rh.tk (some 14) (i:=1) (v:=?_) rfl (Or.inl ⟨by rfl,?_⟩) hS0 ?_
 rotate_left
 ·intro w hSw
  go_simp
  try with_reducible rfl
 try simp only [Act.put,Rh.q1,Rh.q2,Rh.q3]
 refine Rh.tk (some 16) (i:=3) (v:=?_) rfl (Or.inl ⟨by rfl,?_⟩) hS0 ?_
 rotate_left
 ·intro w hSw
  go_simp
  try with_reducible rfl
 try simp only [Act.put,Rh.q1,Rh.q2,Rh.q3]
 refine Rh.tk (some 17) (i:=4) (v:=?_) rfl (Or.inl ⟨by rfl,?_⟩) hS0 ?_
 rotate_left
 ·intro w hSw
  go_simp
  try with_reducible rfl
 try simp only [Act.put,Rh.q1,Rh.q2,Rh.q3]
 refine Rh.step (i:=2) (by kernel_rfl) rfl fun K' hK'=>?_
 have HK:=hid hK'
 clear hK'
 go_simp
 refine (XS.out w1.drew HR1.out HF1.out).mono ?_
 rintro e w2 ⟨o,c,rfl,hx,hb⟩
 obtain ⟨b,off,rfl,d0⟩:=excL_cell hx hk
 have hS1:=(show (fun w'=>w'.cell? ⟨w.heap.size,0,none⟩=some (.int .i64 (N:Int))∧w'.cell? ⟨w.heap.size,1,none⟩=some (.int .i64 ns)∧w'.cell? ⟨w.heap.size,2,none⟩=some (.int .i64 (k:Int))∧w'.cell? ⟨w.heap.size,3,none⟩=some (.slice ao l.length cap)) w2 from ⟨(hb.cell (p:=⟨w.heap.size,0,none⟩) hnl).trans n0,(hb.cell (p:=⟨w.heap.size,1,none⟩) hnl).trans n1,(hb.cell (p:=⟨w.heap.size,2,none⟩) hnl).trans n2,(hb.cell (p:=⟨w.heap.size,3,none⟩) hnl).trans n3⟩)
 refine HK.out _ _ ⟨hS1,?_⟩
 clear HK K'
 try simp only [Act.put,Rh.q1,Rh.q2,Rh.q3]
 refine Rh.tk (some 18) (i:=5) (v:=?_) rfl (Or.inl ⟨by rfl,?_⟩) hS1 ?_
 rotate_left
 ·intro w hSw
  go_simp
  try with_reducible rfl
 try simp only [Act.put,Rh.q1,Rh.q2,Rh.q3]
 refine Rh.step (i:=6) (by kernel_rfl) rfl fun K' hK'=>?_
 have HK:=hid hK'
 clear hK'
 go_simp
 refine HK.out _ _ ⟨hS1,?_⟩
 clear HK K'
 try simp only [Act.put,Rh.q1,Rh.q2,Rh.q3]
 refine Rh.tk (some 4) (i:=7) (v:=?_) rfl (Or.inl ⟨by rfl,?_⟩) hS1 ?_
 rotate_left
 ·intro w hSw
  go_simp
  try with_reducible rfl
 try simp only [Act.put,Rh.q1,Rh.q2,Rh.q3]
 refine Rh.tk (some 5) (i:=8) (v:=?_) rfl (Or.inl ⟨by rfl,?_⟩) hS1 ?_
 rotate_left
 ·intro w hSw
  go_simp
  try with_reducible rfl
 try simp only [Act.put,Rh.q1,Rh.q2,Rh.q3]
 refine Rh.done (by kernel_rfl) ?_ _
 have HB2:=hid ((below_drew HB1.out).trans (hb.mono HB1.out.size))
 clear hb hx
 go_wp2
 go_ret2
 exact ⟨ret2' HV.out.symm rfl,HB2.out⟩
end
end Ne
namespace Ne
section
variable {n:Net} (ao:Option Addr) (cap:Nat) (fo:Option Addr) (fc:Nat) {f:List Int} (w:World) (ck:checkN n=0) (hr:ARow w ao n.l) (hf:IRow w fo f)
include ck hr hf
theorem val_ok (hl:f.length=n.l.length):Calls Tryz.prog 16 #[encN n ao cap,.slice fo n.l.length fc] w fun e w'=>e=.returned (.tuple #[.int .i64 (vaV n f),.int .i64 (chkF n f)])∧Below w.heap.size w w':=by
 have h:=fval_any n ao cap fo fc f w hr hf (by have:=(right_of ck).len;omega) (cap_64 (right_of ck))
 rw [hl] at h;exact h
theorem val_flow (hF:Flow n f):Calls Tryz.prog 16 #[encN n ao cap,.slice fo n.l.length fc] w fun e w'=>e=.returned (.tuple #[.int .i64 (exc n.l f n.t),.int .i64 0])∧Below w.heap.size w w':=by
 have h:=val_ok ao cap fo fc w ck hr hf hF.len
 rw [flow_vaV ck hF,flow_chkF ck hF] at h;exact h
end
end Ne
end Go.Proofs.YtmikbkggjlbbnaaGreat
namespace Go.Proofs.YtmikbkggjlbbnaaGreat
open Go.Joins Go.ChangeShapes Go.WideShapes Go.RowKit Go.Deep
set_option linter.unusedVariables false
namespace Ne
section
variable {H:Type} {enc:TypeId × Value→H} {P:Program} {w:World} {base:Nat} {spare:Nat→Bool} {held:Bool}
theorem open_slice_fields {t e:TypeId} {fs:Array Field} {fuel:Nat} {cs:List Value} {x:DataW H × List MemPlace} (ht:P.underlying t=some (.slice e)) (he:P.underlying e=some (.struct fs))
  (hone:oneCellFields P fs=true) (hC:P.cellsOf e=fs.size) (h:DataW.trod enc P w base spare held fuel t cs=some x) :
  cs=[.slice none 0 0] ∨
  ∃ (a:Addr) (len cap:Nat),cs=[.slice (some a) len cap]∧len≤cap∧cap≤maxLen ∧
   ∀ i,i<len→∀ (j:Nat) (f:Field),fs[j]? = some f→∃ (v:Value) (y:DataW H × List MemPlace) (n:Nat),w.cell? (a.add (i*fs.size+j))=some v∧DataW.trod enc P w base spare held n f.type [v]=some y:=by
 rcases open_slice ht h with h0 | ⟨a,len,cap,m,n,D,Pl,hcs,hb,hl,hm,hmm,hx,hi⟩
 ·exact .inl h0.1
 ·refine .inr ⟨a,len,cap,hcs,hl,hm,fun i him j f hj=>?_⟩
  obtain ⟨cs',hc,ht'⟩:=hi i (by rw [hmm];split <;> omega)
  rw [hC] at hc
  obtain ⟨ys,n',hn',hy,hlen,hyl,hf⟩:=DataW.trod_struct he ht'
  obtain ⟨_,hcl,hat⟩:=World.cells?_some hc
  obtain ⟨ho,hk⟩:=hone_of hone j f hj
  have hjl:j<fs.size:=(Array.getElem?_eq_some_iff.1 hj).1
  have hcell:=hat j hjl
  have hv:cs'[j]? = some (cs'[j]'(by omega)):=List.getElem?_eq_getElem (by omega)
  have h1:=hf j f hj
  rw [ho,hk] at h1
  have hone':(cs'.drop j).take 1=[cs'[j]'(by omega)]:=by
   rw [List.drop_eq_getElem_cons (by omega)]
   rfl
  rw [hone'] at h1
  have hys:ys[j]? = some (ys[j]'(by omega)):=List.getElem?_eq_getElem (by omega)
  refine ⟨_,_,n',?_,h1.trans hys⟩
  rw [← Go.Deep.add_add,hcell,hv]
end
end Ne
namespace Ne
section
variable {H:Type} {enc:TypeId × Value→H} {P:Program} {w:World} {base:Nat} {spare:Nat→Bool} {held:Bool}
theorem open_row3 {t e:TypeId} {f0 f1 f2:Field} {fuel:Nat} {cs:List Value} {x:DataW H × List MemPlace} (ht:P.underlying t=some (.slice e)) (he:P.underlying e=some (.struct #[f0,f1,f2]))
  (hone:oneCellFields P #[f0,f1,f2]=true) (hC:P.cellsOf e=3) (i0:P.underlying f0.type=some (.int .i64)) (i1:P.underlying f1.type=some (.int .i64)) (i2:P.underlying f2.type=some (.int .i64))
  (h:DataW.trod enc P w base spare held fuel t cs=some x) :
  ∃ (ao:Option Addr) (cap:Nat) (l:List Arc),cs=[.slice ao l.length cap]∧l.length≤cap∧cap≤maxLen∧(ao=none→cap=0)∧ARow w ao l∧∀ a∈l,a.ok:=by
 rcases open_slice_fields ht he hone hC h with h0 | ⟨a,len,cap,hcs,hl,hm,hf⟩
 ·exact ⟨none,0,[],h0,by simp,by simp,fun _=>rfl,.inl rfl,by simp⟩
 ·have hel:∀ i,i<len→∃ c:Arc,c.ok∧w.cell? (a.add (i*3))=some (.int .i64 c.fr)∧w.cell? (a.add (i*3+1))=some (.int .i64 c.to)∧w.cell? (a.add (i*3+2))=some (.int .i64 c.cap):=by
   intro i hi
   obtain ⟨v0,y0,n0,h0,t0⟩:=hf i hi 0 f0 rfl
   obtain ⟨v1,y1,n1,h1,t1⟩:=hf i hi 1 f1 rfl
   obtain ⟨v2,y2,n2,h2,t2⟩:=hf i hi 2 f2 rfl
   obtain ⟨z0,e0,_,w0⟩:=DataW.trod_int i0 t0
   obtain ⟨z1,e1,_,w1⟩:=DataW.trod_int i1 t1
   obtain ⟨z2,e2,_,w2⟩:=DataW.trod_int i2 t2
   simp only [List.cons.injEq,and_true] at e0 e1 e2
   subst e0 e1 e2
   refine ⟨⟨z0,z1,z2⟩,⟨bounds_i64 w0,bounds_i64 w1,bounds_i64 w2⟩,h0,h1,h2⟩
  obtain ⟨g,hg⟩:=choose_lt hel
  refine ⟨some a,cap,(List.range len).map g,by simpa using hcs,by simpa using hl,hm,fun h=>by (cases h),?_,?_⟩
  ·by_cases h0:len=0
   ·left;subst h0;rfl
   ·right
    have h1:=(hg 0 (by omega)).2.1
    obtain ⟨b,off,sp⟩:=a
    have hsp:=World.cell?_spot h1
    rw [Nat.zero_mul] at hsp
    simp only [Addr.add,if_true] at hsp
    subst hsp
    refine ⟨b,off,rfl,?_,?_⟩
    ·rw [Nat.zero_mul] at h1
     exact Rw.heap_lt_of_cell (o:=off) (by simpa [Addr.add] using h1)
    ·intro i c hc j v hv
     have hi:i<len:=by have:=(List.getElem?_eq_some_iff.1 hc).1;simpa using this
     have e:((List.range len).map g)[i]? = some (g i):=by simp [hi]
     obtain rfl:=Option.some.inj (e.symm.trans hc)
     obtain ⟨_,q0,q1,q2⟩:=hg i hi
     rw [Rw.add_at] at q0 q1 q2
     match j,hv with
     | 0,hv=>simp [encA] at hv;subst hv;exact q0
     | 1,hv=>simp [encA] at hv;subst hv;exact q1
     | 2,hv=>simp [encA] at hv;subst hv;exact q2
     | (j+3),hv=>simp [encA] at hv
  ·intro c hc
   obtain ⟨i,hi,rfl⟩:=List.mem_map.1 hc
   exact (hg i (by simpa using hi)).1
end
section
variable {H:Type} {enc:TypeId × Value→H} {w:World} {base b0:Nat} {r:Reach} {spare:Nat→Bool} {held:Bool}
end
end Ne
namespace Ne
section
variable {H:Type} {enc:TypeId × Value→H} {w:World} {base b0:Nat} {r:Reach} {spare:Nat→Bool} {held:Bool}
set_option maxRecDepth 100000 in
theorem open_cells {v:Value} {d:DataW H} {p:List MemPlace} (hv:Value.okWide Tryz.prog w r b0 40 v) (h:DataW.Trod enc Tryz.prog w base spare held 40 v d p) :
  ∃ (l:List Arc) (ao:Option Addr) (cap:Nat),v=.slice ao l.length cap∧(∀ a∈l,a.ok)∧l.length≤cap∧cap≤maxLen∧(ao=none→cap=0)∧ARow w ao l:=by
 obtain ⟨ao,len,cap,rfl⟩:=okWide_slice Tryz.underlying40 hv
 obtain ⟨fuel,hf⟩:=h
 obtain ⟨ao',cap',l,e,hl,hm,hn,hr,hk⟩:=open_row3 Tryz.underlying40 Tryz.underlying72 (by kernel_rfl) (by kernel_rfl) Tryz.underlying3 Tryz.underlying3 Tryz.underlying3 hf
 simp [Value.cells] at e
 obtain ⟨rfl,rfl,rfl⟩:=e
 exact ⟨l,ao,cap,rfl,hk,hl,hm,hn,hr⟩
end
end Ne
end Go.Proofs.YtmikbkggjlbbnaaGreat
namespace Go.Proofs.YtmikbkggjlbbnaaGreat
open Go.ChangeShapes Go.WideShapes Go.ChangeAt Go.RowKit
open Lib (hid)
set_option linter.unusedVariables false
set_option linter.unusedSimpArgs false
namespace Ne
theorem cap_top' {n:Net} (hR:Right n) {i:Nat} (hi:i<n.l.length):(arcAt n.l i).cap≤4611686018427387903:=by
 have e:capS n.l (i+1)≤capS n.l n.l.length:=sumTo_mono hR.cap0 (by omega)
 have e2:0≤capS n.l i:=sumTo_nn fun j hj=>hR.cap0 j (by omega)
 have e3:capS n.l (i+1)=capS n.l i+(arcAt n.l i).cap:=rfl
 have:=hR.sum
 omega
theorem irow_ofI {w:World} {B n c:Nat} {o:Option Addr} {l:List Int} (h:OwnI w B (.slice o n c) l):IRow w o l:=by
 obtain ⟨ao,cap,h1,_,_,_,h5,_⟩:=Rw.own_row encI_len h
 simp only [Value.slice.injEq] at h1
 obtain ⟨rfl,_,rfl⟩:=h1
 exact h5
set_option maxRecDepth 100000 in
set_option maxHeartbeats 1000000 in
theorem routed_any (n:Net) (ao:Option Addr) (cap:Nat) (ko:Option Addr) (kc:Nat) (ks:List Int) (w:World) (hr:ARow w ao n.l) (hk:IRow w ko ks) (hc:checkN n=0) (hks:∀ x∈ks,-9223372036854775808≤x∧x≤9223372036854775807) :
  Calls Tryz.prog 17 #[encN n ao cap,.slice ko ks.length kc] w fun e w'=>∃ b,e=.returned (.slice (some ⟨b,0,none⟩) n.l.length n.l.length)∧w.heap.size≤b∧LBox w' b (routeN n ks)∧Below w.heap.size w w':=by
 have RT:=right_of hc
 have hL:=RT.len
 have hN0:=RT.n0
 have HCAP:=hid (fun i h=>cap_top' RT (i:=i) h)
 have HFL:=hid (fun j=>routeJ_flow RT ks j)
 have HJS:=hid (fun j x h=>routeJ_succ n (ks:=ks) (j:=j) (x:=x) h)
 have HJA:=hid (fun j h=>routeJ_all (n:=n) (ks:=ks) (j:=j) h)
 have HJ0:=hid (show routeJ n ks 0=List.replicate n.l.length 0 from rfl)
 have WD0:=hid (fun (F:List Int) hF (x:Int) w' h1 o2 c2 h2 h3=>walked_any n ao cap o2 c2 F x w' h1 h2 hc hF h3)
 have HLD:=hid (fun (j:Nat) raw m0 hm=>led RT (routeJ_flow RT ks j) raw m0 hm)
 have HSR:=hid (fun (F:List Int) raw=>show stepR n F raw=addN (mostN n.l F (pickN raw 30+1) (walkN n F raw)) F (walkN n F raw) from rfl)
 have HLEN:=hid (fun (j:Nat)=>(routeJ_flow RT ks j).len)
 generalize routeJ n ks=RJ at *
 generalize routeN n ks=RN at *
 have HM:=hid (show ∃ W:List Int→Int→List Nat,W=walkN n from ⟨_,rfl⟩)
 obtain ⟨WK,hWK⟩:=HM.out
 rw [← hWK] at WD0 HLD HSR
 obtain ⟨ST,hST⟩:∃ S:List Int→Int→List Int,S=stepR n:=⟨_,rfl⟩
 rw [← hST] at HJS HSR
 clear hWK HM hST RT hc HFL
 obtain ⟨nn,ns,nt,l⟩:=n
 simp only at hr hL hN0 HCAP HJS HJA HJ0 WD0 HSR HLEN ⊢
 obtain ⟨N,rfl⟩:∃ N:Nat,nn=(N:Int):=⟨nn.toNat,by omega⟩
 have HR:=hid hr
 have HK:=hid hk
 have HKS:=hid hks
 clear hr hk hks
 have hmk:=make_l l.length (by omega)
 have HN0:=hid (netBox_new w N ns nt (.slice ao l.length cap))
 have HB0:=hid ((Below.refl w.heap.size w).alloc (Nat.le_refl _) (.cells #[.int .i64 (N:Int),.int .i64 ns,.int .i64 nt,.slice ao l.length cap] 24))
 have HZ0:(w.alloc (.cells #[.int .i64 (N:Int),.int .i64 ns,.int .i64 nt,.slice ao l.length cap] 24)).heap.size=w.heap.size+1:=by simp
 have HL1:=hid (lbox_made (w.alloc (.cells #[.int .i64 (N:Int),.int .i64 ns,.int .i64 nt,.slice ao l.length cap] 24)) l.length (b:=w.heap.size+1) HZ0.symm)
 have HN1:=hid (netBox_alloc HN0.out (.cells (madeCells #[.int .i64 0] l.length) 2))
 have HB1:=hid (HB0.out.alloc (by omega) (.cells (madeCells #[.int .i64 0] l.length) 2))
 rw [← HJ0.out] at HL1
 have HZ1:=hid (show w.heap.size+2≤((w.alloc (.cells #[.int .i64 (N:Int),.int .i64 ns,.int .i64 nt,.slice ao l.length cap] 24)).alloc (.cells (madeCells #[.int .i64 0] l.length) 2)).heap.size by simp)
 obtain ⟨n0,n1,n2,n3⟩:=netBox_cells HN0.out
 clear HN0 HB0
 go_enter Tryz.func17,Tryz.ntmps17
 go_wp2
 generalize ((w.alloc (.cells #[.int .i64 (N:Int),.int .i64 ns,.int .i64 nt,.slice ao l.length cap] 24)).alloc (.cells (madeCells #[.int .i64 0] l.length) 2))=W1 at *
 clear n0 n1 n2 n3 HZ0 hmk
 obtain ⟨bf,hbf⟩:∃ b,b=w.heap.size+1:=⟨_,rfl⟩
 rw [← hbf] at HL1 ⊢
 have hbf0:w.heap.size<bf:=by omega
 clear hbf HZ1
 go_loopw [6] (fun si wr=>∃ j:Nat,si=.int .i64 j∧j≤8∧j≤ks.length∧Hid (LBox wr bf (RJ j))∧Hid (NetBox wr w.heap.size N ns nt (.slice ao l.length cap))∧Hid (Below w.heap.size w wr)) (fun si _=>8-(intOf si).toNat)
 case atStart=>exact ⟨0,rfl,by omega,by omega,HL1,HN1,HB1⟩
 case round =>
  obtain ⟨j,rfl,hj8,hjk,HLB,HN,HB⟩:=hrel
  clear HL1 HN1 HB1
  by_cases c:j<8∧j<ks.length
  case neg =>
   have HE:=hid (show RJ j=RN from HJA.out j (by omega))
   rw [HE.out] at HLB
   have hcs:¬ (j:Int)<(ks.length:Int)∨((j:Int)<(ks.length:Int)∧¬ (j:Int)<8):=by omega
   clear c
   rcases hcs with h1 | ⟨h1,h2⟩
   ·go_wp2
    go_ret
    exact ⟨bf,rfl,by omega,HLB.out,HB.out⟩
   ·go_wp2
    go_ret
    exact ⟨bf,rfl,by omega,HLB.out,HB.out⟩
  obtain ⟨cj8,cjk⟩:=c
  have hj1:(j:Int)<(ks.length:Int):=by omega
  have hj2:(j:Int)<8:=by omega
  have hj0:(0:Int)≤(j:Int):=by omega
  obtain ⟨x,hx⟩:∃ x,ks[j]? = some x:=⟨_,List.getElem?_eq_getElem cjk⟩
  have hxb:=HKS.out x (List.mem_of_getElem? hx)
  have HX64:=hid (show in64 x from hxb)
  have HJ1:=hid (HJS.out j x hx)
  obtain ⟨bk,offk,rfl,hbk,d0⟩:=irow_cell HK.out cjk
  rw [amt_of hx] at d0
  replace d0:=(HB.out.cell (p:=⟨bk,offk+j,none⟩) hbk).trans d0
  have hbk2:bk<wr.drew.heap.size:=Nat.lt_of_lt_of_le hbk HB.out.size
  have hbl:w.heap.size<wr.drew.heap.size:=netBox_lt HN.out
  have hbfl:bf<wr.drew.heap.size:=HLB.out.lt
  have HRJ:=hid (show ARow wr.drew ao l from (HR.out.kept (below_drew HB.out)))
  have HLJ:=hid (show LBox wr.drew bf (RJ j) from HLB.out)
  have hln:=HLEN.out j
  have bp:=pickN_bd (c:=x) (n:=30) (by omega)
  have HLDJ:=hid (HLD.out j x (pickN x 30+1) (by omega))
  have HSRJ:=hid (HSR.out (RJ j) x)
  have WD:=hid (fun w' h1 h2=>WD0.out (RJ j) hln x w' h1 (some ⟨bf,0,none⟩) l.length h2 HX64.out)
  rw [hln] at WD
  have P30:=hid fun w'=>pick_any x 30 w' hxb.1 hxb.2 (by omega) (by omega)
  generalize pickN x 30=px at *
  have HLNJ:=hid hln
  clear hx hln hxb HJS HJA HSR HLEN HLD WD0 HJ0
  obtain ⟨n0,n1,n2,n3⟩:=netBox_cells HN.out
  generalize WK (RJ j) x=R at *
  go_wp2
  have hS0:=(show (fun w'=>w'.cell? ⟨w.heap.size,0,none⟩=some (.int .i64 (N:Int))∧w'.cell? ⟨w.heap.size,1,none⟩=some (.int .i64 ns)∧w'.cell? ⟨w.heap.size,2,none⟩=some (.int .i64 nt)∧w'.cell? ⟨w.heap.size,3,none⟩=some (.slice ao l.length cap)∧w'.cell? ⟨bk,offk+j,none⟩=some (.int .i64 x)) wr.drew from ⟨n0,n1,n2,n3,d0⟩)
  refine Rh.start (S:=(fun w'=>w'.cell? ⟨w.heap.size,0,none⟩=some (.int .i64 (N:Int))∧w'.cell? ⟨w.heap.size,1,none⟩=some (.int .i64 ns)∧w'.cell? ⟨w.heap.size,2,none⟩=some (.int .i64 nt)∧w'.cell? ⟨w.heap.size,3,none⟩=some (.slice ao l.length cap)∧w'.cell? ⟨bk,offk+j,none⟩=some (.int .i64 x))) (by kernel_rfl) ?_
  refine Rh.tk (some 25) (i:=0) (v:=?_) rfl (Or.inl ⟨by rfl,?_⟩) hS0 ?_
  rotate_left
  ·intro w hSw
   go_simp
   try with_reducible rfl
  try simp only [Act.put,Rh.q1,Rh.q2,Rh.q3]
  refine Rh.tk (some 26) (i:=1) (v:=?_) rfl (Or.inl ⟨by rfl,?_⟩) hS0 ?_
  rotate_left
  ·intro w hSw
   go_simp
   try with_reducible rfl
  try simp only [Act.put,Rh.q1,Rh.q2,Rh.q3]
  refine Rh.tk (some 27) (i:=2) (v:=?_) rfl (Or.inl ⟨by rfl,?_⟩) hS0 ?_
  rotate_left
  ·intro w hSw
   go_simp
   try with_reducible rfl
  try simp only [Act.put,Rh.q1,Rh.q2,Rh.q3]
  refine Rh.tk (some 28) (i:=3) (v:=?_) rfl (Or.inl ⟨by rfl,?_⟩) hS0 ?_
  rotate_left
  ·intro w hSw
   go_simp
   try with_reducible rfl
  try simp only [Act.put,Rh.q1,Rh.q2,Rh.q3]
  refine Rh.tk (some 29) (i:=4) (v:=?_) rfl (Or.inl ⟨by rfl,?_⟩) hS0 ?_
  rotate_left
  ·intro w hSw
   go_simp
   try with_reducible rfl
  try simp only [Act.put,Rh.q1,Rh.q2,Rh.q3]
  refine Rh.tk (some 30) (i:=5) (v:=?_) rfl (Or.inl ⟨by rfl,?_⟩) hS0 ?_
  rotate_left
  ·intro w hSw
   go_simp
   try with_reducible rfl
  try simp only [Act.put,Rh.q1,Rh.q2,Rh.q3]
  refine Rh.step (i:=6) (by kernel_rfl) rfl fun K' hK'=>?_
  have HK:=hid hK'
  clear hK'
  go_simp
  refine (WD.out wr.drew HRJ.out HLJ.out.irow).mono ?_
  rintro e w2 ⟨v,rfl,hov,hb⟩
  have hS1:=(show (fun w'=>w'.cell? ⟨w.heap.size,0,none⟩=some (.int .i64 (N:Int))∧w'.cell? ⟨w.heap.size,1,none⟩=some (.int .i64 ns)∧w'.cell? ⟨w.heap.size,2,none⟩=some (.int .i64 nt)∧w'.cell? ⟨w.heap.size,3,none⟩=some (.slice ao l.length cap)∧w'.cell? ⟨bk,offk+j,none⟩=some (.int .i64 x)) w2 from ⟨(hb.cell (p:=⟨w.heap.size,0,none⟩) hbl).trans n0,(hb.cell (p:=⟨w.heap.size,1,none⟩) hbl).trans n1,(hb.cell (p:=⟨w.heap.size,2,none⟩) hbl).trans n2,(hb.cell (p:=⟨w.heap.size,3,none⟩) hbl).trans n3,(hb.cell (p:=⟨bk,offk+j,none⟩) hbk2).trans d0⟩)
  obtain ⟨ow,cw,hv,_,_,_,_⟩:=Rw.own_row encI_len hov
  rw [encW_len] at hv
  subst hv
  refine HK.out _ _ ⟨hS1,?_⟩
  clear HK K'
  try simp only [Act.put,Rh.q1,Rh.q2,Rh.q3]
  refine Rh.tk (some 7) (i:=7) (v:=?_) rfl (Or.inl ⟨by rfl,?_⟩) hS1 ?_
  rotate_left
  ·intro w hSw
   go_simp
   try with_reducible rfl
  try simp only [Act.put,Rh.q1,Rh.q2,Rh.q3]
  refine Rh.done (by kernel_rfl) ?_ _
  have HB2:=hid ((below_drew HB.out).trans (hb.mono HB.out.size))
  have HL2:=hid (HLJ.out.kept hb)
  have HN2:=hid (netBox_below (w:=wr.drew) HN.out hb hbl)
  have HO2:=hid (Rw.own_base hov (B':=bf+1) (by omega))
  have d2:=hS1.2.2.2.2
  clear hS0 hS1 hb hov n0 n1 n2 n3 d0
  go_wp2_with fail
  refine (P30.out _).mono ?_
  rintro e w' ⟨rfl,rfl⟩
  obtain ⟨m0,hm0⟩:∃ m,px+1=m:=⟨_,rfl⟩
  rw [hm0] at HLDJ HSRJ
  have hwm:IntKind.i64.wrap (px+1)=m0:=by rw [IntKind.wrap_i64];omega
  have hm30:m0≤30:=by omega
  have hm00:0≤m0:=by omega
  go_wp2
  have HRW:=hid (show ARow w ao l from HR.out)
  have HXM0:=hid (show m0=mostN l (RJ j) m0 (R.take 0) from rfl)
  have HQ1:=hid HLDJ.out.arc
  have HQ2:=hid HLDJ.out.amt0
  have HQ3:=hid HLDJ.out.most
  have HQ4:=hid HLDJ.out.room
  have HQ5:=hid HLDJ.out.now
  have hRl:=HLDJ.out.len
  simp only at HQ1 HQ2 HQ3 HQ4 hRl
  clear HLDJ P30 WD hwm hm0 HRJ HLJ HN HLB HB hbk hbk2 hbl d2 bp
  generalize RJ j=F at *
  go_loopw [8,9] (fun sm sq wr=>∃ (q:Nat) (m:Int),sm=.int .i64 m∧sq=.int .i64 q∧q≤R.length∧0≤m∧m≤30∧Hid (m=mostN l F m0 (R.take q))∧Hid (LBox wr bf F)∧Hid (NetBox wr w.heap.size N ns nt (.slice ao l.length cap))∧Hid (OwnI wr (bf+1) (.slice ow R.length cw) (encW R))∧Hid (Below w.heap.size w wr)) (fun _ sq _=>R.length-(intOf sq).toNat)
  case atStart=>exact ⟨0,m0,rfl,rfl,Nat.zero_le _,by omega,by omega,HXM0,HL2,HN2,HO2,HB2⟩
  case round =>
   obtain ⟨q,m,rfl,rfl,hq,hm0,hm1,HMQ,HL,HN,HO,HB⟩:=hrel
   clear HXM0 HL2 HN2 HO2 HB2
   by_cases hlt:q<R.length
   ·have hK:=HQ1.out q hlt
    obtain ⟨hF0,hF1⟩:=HQ2.out q hlt
    have HTK:=hid (take_getD hlt)
    have HMS:=hid (mostN_snoc l F m0 (R.take q) (R.getD q 0))
    have HM3:=HQ3.out (q+1) hlt
    rw [HTK.out,HMS.out,← HMQ.out] at HM3
    have hrw:=irow_ofI HO.out
    obtain ⟨bw,offw,rfl,hbw,w0⟩:=irow_cell hrw (i:=q) (by rw [encW_len];exact hlt)
    rw [encW_at hlt] at w0
    obtain ⟨b,off,rfl,hba,c0,c1,c2⟩:=arow_cell (HR.out.kept HB.out) hK
    have hlf:R.getD q 0<F.length:=by have:=HLNJ.out;omega
    have f0:=HL.out.cell hlf
    obtain ⟨n0,n1,n2,n3⟩:=netBox_cells HN.out
    have cs:=HCAP.out _ hK
    generalize R.getD q 0=K at *
    generalize amt F K=x at *
    generalize (arcAt l K).cap=ca at *
    have hmin:min m (ca-x)=if ca-x<m then ca-x else m:=by
     rw [Int.min_def]
     by_cases c:ca-x<m
     ·rw [if_pos c];by_cases d:m≤ca-x
      ·omega
      ·rw [if_neg d]
     ·rw [if_neg c,if_pos (by omega)]
    have hb0:0≤min m (ca-x)∧min m (ca-x)≤30:=by rw [hmin];omega
    have HNX:=hid (show min m (ca-x)=mostN l F m0 (R.take (q+1)) by rw [hmin,HTK.out,HMS.out,← HMQ.out])
    clear hmin HM3
    have hKI:(K:Int)<(l.length:Int):=by omega
    have hK0:(0:Int)≤(K:Int):=by omega
    have hqI:(q:Int)<(R.length:Int):=by omega
    have hq0:(0:Int)≤(q:Int):=by omega
    go_wp2
    go_region
    generalize min m (ca-x)=m2 at *
    obtain ⟨hb00,hb01⟩:=hb0
    go_wp2
    go_roundw
    case rel=>exact ⟨q+1,_,rfl,by go_num,by omega,by omega,by omega,HNX,HL,HN,HO,hid (below_drew HB.out)⟩
    case measure=>simp [intOf];omega
   ·have eq:R.take q=R:=List.take_of_length_le (by omega)
    rw [eq] at HMQ
    have hqN:¬ (q:Int)<(R.length:Int):=by omega
    clear eq hlt HQ3
    have HQ4':=hid (show ∀ q,q<R.length→amt F (R.getD q 0)+m≤(arcAt l (R.getD q 0)).cap from fun q h=>by rw [HMQ.out];exact HQ4.out q h)
    rw [← HMQ.out] at HSRJ
    have HXA:=hid (show F=addN m F (R.take 0) from rfl)
    have HAL:=hid (fun k=>addN_len m (R.take k) F)
    clear HQ4
    have HL':Hid (LBox wr bf (addN m F (R.take 0))):=HL
    clear HL HXA
    go_wp2
    clear hqN hq
    go_loopw [10] (fun sq wr=>∃ (q:Nat),sq=.int .i64 q∧q≤R.length∧Hid (LBox wr bf (addN m F (R.take q)))∧Hid (NetBox wr w.heap.size N ns nt (.slice ao l.length cap))∧Hid (OwnI wr (bf+1) (.slice ow R.length cw) (encW R))∧Hid (Below w.heap.size w wr)) (fun sq _=>R.length-(intOf sq).toNat)
    case atStart=>exact ⟨0,rfl,Nat.zero_le _,HL',HN,HO,HB⟩
    case round =>
     obtain ⟨q,rfl,hq,HL,HN,HO,HB⟩:=hrel
     by_cases hlt:q<R.length
     ·have hK:=HQ1.out q hlt
      obtain ⟨hF0,hF1⟩:=HQ2.out q hlt
      have hF2:=HQ4'.out q hlt
      have cs:=HCAP.out _ hK
      have HTK:=hid (take_getD hlt)
      have HAS:=hid (addN_snoc m F (R.take q) (R.getD q 0))
      have HNW:=hid (HQ5.out m q hlt)
      have hrw:=irow_ofI HO.out
      obtain ⟨bw,offw,rfl,hbw,w0⟩:=irow_cell hrw (i:=q) (by rw [encW_len];exact hlt)
      rw [encW_at hlt] at w0
      have hlf:R.getD q 0<(addN m F (R.take q)).length:=by rw [HAL.out];have:=HLNJ.out;omega
      have f0:=HL.out.cell hlf
      have z0:=HL.out.frozen (R.getD q 0)
      rw [HNW.out] at f0
      have HL3:=hid (HL.out.set hlf (amt F (R.getD q 0)+m))
      have HLE:=hid (show (addN m F (R.take q)).set (R.getD q 0) (amt F (R.getD q 0)+m)=addN m F (R.take (q+1)) by rw [HTK.out,HAS.out,HNW.out])
      rw [HLE.out] at HL3
      have hvb:=Rw.own_block HO.out
      have HO3:=hid (Rw.own_set HO.out (p:=⟨bf,R.getD q 0,none⟩) (fun h=>by have:=hvb _ h;simp only at this;omega) (.int .i64 (amt F (R.getD q 0)+m)))
      have HN3:=hid (netBox_other HN.out (b2:=bf) (o:=R.getD q 0) (v2:=.int .i64 (amt F (R.getD q 0)+m)) (by omega))
      have HB3:=hid (below_drew (HB.out.setCell (p:=⟨bf,R.getD q 0,none⟩) (by show w.heap.size≤bf;omega) (.int .i64 (amt F (R.getD q 0)+m))))
      generalize R.getD q 0=K at *
      generalize amt F K=x at *
      generalize (arcAt l K).cap=ca at *
      have hKI:(K:Int)<(l.length:Int):=by omega
      have hK0:(0:Int)≤(K:Int):=by omega
      have hqI:(q:Int)<(R.length:Int):=by omega
      have hq0:(0:Int)≤(q:Int):=by omega
      clear hvb hlf HL HN HO HB
      go_wp2
      go_region
      go_wp2
      go_roundw
      case rel=>exact ⟨q+1,by go_num,by omega,HL3,HN3,HO3,HB3⟩
      case measure=>simp [intOf];omega
     ·have eq:R.take q=R:=List.take_of_length_le (by omega)
      rw [eq,← HSRJ.out,← HJ1.out] at HL
      have hqN:¬ (q:Int)<(R.length:Int):=by omega
      clear eq hlt
      go_wp2
      go_roundw
      case rel=>exact ⟨j+1,by go_num,by omega,by omega,HL,HN,HB⟩
      case measure=>simp [intOf];omega
end Ne
end Go.Proofs.YtmikbkggjlbbnaaGreat
