/-
  Som, Ctm, Cts, Trp, Spm, Spt
-/
import Derived.Test.YthhlfphnokdfaaaGreatBc6
import Derived.Test.YthhlfphnokdfaaaGreatBc10
import Derived.Test.YthhlfphnokdfaaaGreatBc13
import Derived.Test.YthhlfphnokdfaaaGreatBc5
import Derived.Test.YthhlfphnokdfaaaGreatBc2
set_option linter.unusedVariables false
set_option linter.unusedSimpArgs false
set_option maxRecDepth 100000
set_option maxHeartbeats 4000000
namespace Go.Proofs.YthhlfphnokdfaaaGreat
open Go.ChangeShapes Go.WideShapes Go.ChangeAt Go.RowKit
open Lib (hid)
namespace Ne
theorem upd_in {p:Nat→Bool} {s t k J:Nat} {b:Bool} (hJ:J=k+1) (h:(s≤k→p s=true)∧(t≤k→p t=false)) (h1:s=J→b=true) (h2:t=J→b=false) :
  (s≤J→(if s=J then b else p s)=true)∧(t≤J→(if t=J then b else p t)=false):=by
 refine ⟨fun g=>?_,fun g=>?_⟩
 ·by_cases e:s=J
  ·rw [if_pos e];exact h1 e
  ·rw [if_neg e];exact h.1 (by omega)
 ·by_cases e:t=J
  ·rw [if_pos e];exact h2 e
  ·rw [if_neg e];exact h.2 (by omega)
theorem nodes_upd (p:Nat→Bool) (k:Nat) (b:Bool):nodesTo (fun v=>if v=k+1 then b else p v) (k+1)=nodesTo p k ++ if b then [((k+1:Nat):Int)] else []:=by
 rw [nodesTo,nodes_congr (q:=p) fun v h1 h2=>if_neg (by omega),if_pos rfl]
theorem some_any (n:Net) (ao:Option Addr) (cap:Nat) (x:Int) (w:World) (hR:Right n) (hx:in64 x) :
  Calls Tryz.prog 13 #[encN n ao cap,.int .i64 x] w fun e w'=>∃ o c p,e=.returned (.slice o (nodesTo p n.n.toNat).length c)∧p n.s.toNat=true∧p n.t.toNat=false∧OwnI w' w.heap.size (.slice o (nodesTo p n.n.toNat).length c) (nodesTo p n.n.toNat)∧Below w.heap.size w w':=by
 have hN0:=hR.n0
 have hN1:=hR.n1
 have hS0:=hR.s0
 have hS1:=hR.s1
 have hT0:=hR.t0
 have hT1:=hR.t1
 have hne:=hR.ne
 obtain ⟨nn,ns,nt,l⟩:=n
 simp only at hN0 hN1 hS0 hS1 hT0 hT1 hne ⊢
 obtain ⟨N,rfl⟩:∃ N:Nat,nn=(N:Int):=⟨nn.toNat,by omega⟩
 obtain ⟨s,rfl⟩:∃ s:Nat,ns=(s:Int):=⟨ns.toNat,by omega⟩
 obtain ⟨t,rfl⟩:∃ t:Nat,nt=(t:Int):=⟨nt.toNat,by omega⟩
 simp only [Int.toNat_natCast]
 have HNB:=hid (netBox_new w (N:Int) (s:Int) (t:Int) (.slice ao l.length cap))
 have HB0:=hid ((Below.refl w.heap.size w).alloc (Nat.le_refl _) (.cells #[.int .i64 (N:Int),.int .i64 (s:Int),.int .i64 (t:Int),.slice ao l.length cap] 27))
 clear hR
 go_enter Tryz.func13,Tryz.ntmps13
 go_wp2
 go_loopw [5,6] (fun y i wr=>∃ (k:Nat) (p:Nat→Bool),i=.int .i64 ((k+1:Nat):Int)∧k≤N∧Hid ((s≤k→p s=true)∧(t≤k→p t=false))∧Hid (OwnI wr (w.heap.size+1) y (nodesTo p k))∧Hid (NetBox wr w.heap.size (N:Int) (s:Int) (t:Int) (.slice ao l.length cap))∧Hid (Below w.heap.size w wr)) (fun _ i _=>N+1-(intOf i).toNat)
 case atStart=>exact ⟨0,fun _=>true,rfl,Nat.zero_le _,hid ⟨fun _=>rfl,fun h=>absurd h (by omega)⟩,hid (Rw.own_nil _ _),HNB,HB0⟩
 case round =>
  obtain ⟨k,p,rfl,hk,HP,HO,HN,HB⟩:=hrel
  obtain ⟨n0,n1,n2,n3⟩:=netBox_cells HN.out
  by_cases hlt:k<N
  ·obtain ⟨J,hJ⟩:∃ J,J=k+1:=⟨_,rfl⟩
   rw [← hJ]
   have HJ:=hid hJ
   have hJN:J≤N:=by omega
   have hJi:(J:Int)≤(N:Int):=by omega
   have hJ0:(0:Int)≤(J:Int):=by omega
   clear hJ
   by_cases es:J=s
   ·have et:J≠t:=by omega
    have es':((J:Int) == (s:Int))=true:=by simp [es]
    have es2:(J == s)=true:=by simp [es]
    have HU:=hid (show nodesTo (fun v=>if v=J then true else p v) J=nodesTo p k ++ [(J:Int)] by rw [HJ.out,nodes_upd];rfl)
    have HP2:=hid (upd_in HJ.out (b:=true) HP.out (fun h=>rfl) (fun h=>absurd h (by omega)))
    have HO2:=hid (Rw.own_alloc HO.out (.cells #[.int .i64 (J:Int)] 3))
    have HR2:=hid (irow_one' wr rfl (J:Int) 3)
    have HB3:=hid (HB.out.alloc HB.out.size (.cells #[.int .i64 (J:Int)] 3))
    have HN3:=hid (netBox_alloc HN.out (.cells #[.int .i64 (J:Int)] 3))
    have HLN:=hid (show (nodesTo p k).length + [(J:Int)].length≤1099511627776 by have:=nodes_len p k;simp;omega)
    have HVB:=hid (Rw.own_lt HO2.out)
    have HNE:=hid (show some w.heap.size≠_ from fun e=>by have:=(Rw.own_lt HO2.out _ e.symm).1;omega)
    clear es et
    go_wp2_with (at_builtin;refine Rw.app elemI encI_len encI_one rfl (.tmp 31) (.tmp 33) rfl (w.heap.size+1) _ (nodesTo p k) rfl HO2.out (some ⟨wr.heap.size,0,none⟩) 1 [(J:Int)] rfl ?hnn HR2.out HLN.out ?hB ?_;(case hnn=>(intro h;cases h));(case hB=>(exact netBox_lt HN3.out));intro v4 w4 hown4 hgr4;have HO4:=hid hown4;have HB4:=hid (HB3.out.grown hgr4 HB3.out.size (fun q e=>by have:=Rw.own_block HO2.out q e;omega));have HN4:=hid (netBox_grown HN3.out hgr4 HNE.out);clear hown4 hgr4)
    go_roundw
    case rel=>exact ⟨J,fun v=>if v=J then true else p v,by go_num,hJN,HP2,hid (by rw [HU.out];exact HO4.out),HN4,HB4⟩
    case measure=>have:=HJ.out;simp [intOf];omega
   have es':((J:Int) == (s:Int))=false:=by simp;omega
   have es2:(J == s)=false:=by simp;omega
   by_cases et:J=t
   ·have et':((J:Int) != (t:Int))=false:=by simp [et]
    have et2:(J != t)=false:=by simp [et]
    have HU:=hid (show nodesTo (fun v=>if v=J then false else p v) J=nodesTo p k by rw [HJ.out,nodes_upd];simp)
    have HP2:=hid (upd_in HJ.out (b:=false) HP.out (fun h=>absurd h (by omega)) (fun h=>rfl))
    clear es et
    go_wp2
    go_roundw
    case rel=>exact ⟨J,fun v=>if v=J then false else p v,by go_num,hJN,HP2,hid (by rw [HU.out];exact HO.out),HN,HB⟩
    case measure=>have:=HJ.out;simp [intOf];omega
   have et':((J:Int) != (t:Int))=true:=by simp;omega
   have et2:(J != t)=true:=by simp;omega
   cases hq:(bits BinOp.and IntKind.i64 (x / 2 ^ (J % 20)) 1 == 1)
   ·have hq2:decide (bits BinOp.and IntKind.i64 (x / 2 ^ (J % 20)) 1=1)=false:=by simpa using hq
    have HU:=hid (show nodesTo (fun v=>if v=J then false else p v) J=nodesTo p k by rw [HJ.out,nodes_upd];simp)
    have HP2:=hid (upd_in HJ.out (b:=false) HP.out (fun h=>absurd h (by omega)) (fun h=>rfl))
    clear es et
    go_wp2
    go_roundw
    case rel=>exact ⟨J,fun v=>if v=J then false else p v,by go_num,hJN,HP2,hid (by rw [HU.out];exact HO.out),HN,HB⟩
    case measure=>have:=HJ.out;simp [intOf];omega
   ·have hq2:decide (bits BinOp.and IntKind.i64 (x / 2 ^ (J % 20)) 1=1)=true:=by simpa using hq
    have HU:=hid (show nodesTo (fun v=>if v=J then true else p v) J=nodesTo p k ++ [(J:Int)] by rw [HJ.out,nodes_upd];rfl)
    have HP2:=hid (upd_in HJ.out (b:=true) HP.out (fun h=>rfl) (fun h=>absurd h (by omega)))
    have HO2:=hid (Rw.own_alloc HO.out (.cells #[.int .i64 (J:Int)] 3))
    have HR2:=hid (irow_one' wr rfl (J:Int) 3)
    have HB3:=hid (HB.out.alloc HB.out.size (.cells #[.int .i64 (J:Int)] 3))
    have HN3:=hid (netBox_alloc HN.out (.cells #[.int .i64 (J:Int)] 3))
    have HLN:=hid (show (nodesTo p k).length + [(J:Int)].length≤1099511627776 by have:=nodes_len p k;simp;omega)
    have HVB:=hid (Rw.own_lt HO2.out)
    have HNE:=hid (show some w.heap.size≠_ from fun e=>by have:=(Rw.own_lt HO2.out _ e.symm).1;omega)
    clear es et
    go_wp2_with (at_builtin;refine Rw.app elemI encI_len encI_one rfl (.tmp 31) (.tmp 33) rfl (w.heap.size+1) _ (nodesTo p k) rfl HO2.out (some ⟨wr.heap.size,0,none⟩) 1 [(J:Int)] rfl ?hnn HR2.out HLN.out ?hB ?_;(case hnn=>(intro h;cases h));(case hB=>(exact netBox_lt HN3.out));intro v4 w4 hown4 hgr4;have HO4:=hid hown4;have HB4:=hid (HB3.out.grown hgr4 HB3.out.size (fun q e=>by have:=Rw.own_block HO2.out q e;omega));have HN4:=hid (netBox_grown HN3.out hgr4 HNE.out);clear hown4 hgr4)
    go_roundw
    case rel=>exact ⟨J,fun v=>if v=J then true else p v,by go_num,hJN,HP2,hid (by rw [HU.out];exact HO4.out),HN4,HB4⟩
    case measure=>have:=HJ.out;simp [intOf];omega
  ·have ek:k=N:=by omega
   subst ek
   obtain ⟨o,c,hy,-⟩:=Rw.own_row encI_len HO.out
   subst hy
   go_wp2
   go_ret
   exact ⟨o,c,p,rfl,HP.out.1 (by omega),HP.out.2 (by omega),Rw.own_base HO.out (by omega),HB.out⟩
end Ne
end Go.Proofs.YthhlfphnokdfaaaGreat
namespace Go.Proofs.YthhlfphnokdfaaaGreat
namespace Ne
theorem capP_in {n:Net} (hR:Right n) {P Q:Int→Bool} (h:∀ v,1≤v→v≤n.n→P v=Q v):capP n.l P=capP n.l Q:=by
 rw [capP_eq,capP_eq]
 refine sumTo_congr fun i hi=>?_
 unfold capT
 rw [h _ (hR.fr0 i hi) (hR.fr1 i hi),h _ (hR.to0 i hi) (hR.to1 i hi)]
theorem nodes_at (p:Nat→Bool) {n v:Int} (h:1≤v) (h2:v≤n):hasL (nodesTo p n.toNat) v=p v.toNat:=nodes_has h (by omega)
theorem cutC_nodes {n:Net} (hR:Right n) (p:Nat→Bool):cutC n.l (nodesTo p n.n.toNat)=capP n.l fun v=>!(p v.toNat) :=
 capP_in hR fun v h1 h2=>by rw [nodes_at p h1 h2]
theorem nodes_cut {n:Net} (ck:checkN n=0) {p:Nat→Bool} (hs:p n.s.toNat=true) (ht:p n.t.toNat=false):cutE n (nodesTo p n.n.toNat)=0:=by
 have hR:=right_of ck
 have hr:=nodes_rise p n.n.toNat
 rw [show ((n.n.toNat:Nat):Int)=n.n by have:=hR.n0;omega] at hr
 exact cutE_fine ck hr (by rw [nodes_at p hR.s0 hR.s1];exact hs) (by rw [nodes_at p hR.t0 hR.t1];exact ht)
end Ne
namespace Ne
structure Best (n:Net) (g:List Int) (M B:List Bool):Prop where
 flow:Flow n g
 rm:IsReach n g 1 M
 rb:IsReach (turnN n) g 1 B
 cut:CutF n g M B
 top:∀ f,Flow n f→exc n.l f n.t≤exc n.l g n.t
theorem best_of {n:Net} (hR:Right n) {g:List Int} (hF:Flow n g) {M B:List Bool} (hM:IsReach n g 1 M) (hB:IsReach (turnN n) g 1 B) (ht:M.getD n.t.toNat false=false):Best n g M B:=by
 have C:=cutF hR (right_back hR) hF hM hB ht
 refine ⟨hF,hM,hB,C,fun f h=>?_⟩
 rw [C.first]
 exact flow_capP hR h (by show (!_)=false;rw [C.ms];rfl) (by show (!_)=true;rw [C.mt];rfl)
section
variable {n:Net} {g:List Int} {M B:List Bool}
theorem Best.chk (h:Best n g M B) (ck:checkN n=0):chkF n g=0:=flow_chkF ck h.flow
theorem Best.firE (h:Best n g M B) (ck:checkN n=0):firE n g M=0:=firE_ok (h.chk ck) h.cut.mt
theorem Best.lasE (h:Best n g M B) (ck:checkN n=0):lasE n g B=0:=lasE_ok (h.chk ck) h.cut.bs
theorem Best.firV (h:Best n g M B) (ck:checkN n=0):firV n g M=nodesTo (fun v=>M.getD v false) n.n.toNat:=firV_ok (h.firE ck)
theorem Best.lasV (h:Best n g M B) (ck:checkN n=0):lasV n g B=nodesTo (fun v=>!(B.getD v false)) n.n.toNat:=lasV_ok (h.lasE ck)
theorem Best.cuts (h:Best n g M B) (ck:checkN n=0):proE n g (nodesTo (fun v=>M.getD v false) n.n.toNat)=0∧proE n g (nodesTo (fun v=>!(B.getD v false)) n.n.toNat)=0:=by
 have hR:=right_of ck
 have e1:=nodes_cut ck (p:=fun v=>M.getD v false) h.cut.ms h.cut.mt
 have e2:=nodes_cut ck (p:=fun v=>!(B.getD v false)) (by show (!_)=true;rw [h.cut.bs];rfl) (by show (!_)=false;rw [h.cut.bt];rfl)
 refine ⟨proE_ok (h.chk ck) e1 ?_,proE_ok (h.chk ck) e2 ?_⟩
 ·rw [flow_vaV ck h.flow,capV_ok e1,cutC_nodes hR];exact h.cut.first
 ·rw [flow_vaV ck h.flow,capV_ok e2,cutC_nodes hR]
  simp only [Bool.not_not];exact h.cut.last
theorem Best.between (h:Best n g M B) (ck:checkN n=0) {p:Nat→Bool} (hs:p n.s.toNat=true) (ht:p n.t.toNat=false):exc n.l g n.t≤capV n (nodesTo p n.n.toNat) ∧
  ∀ v:Nat,(M.getD v false=true→B.getD v false=false)∧(capV n (nodesTo p n.n.toNat)=exc n.l g n.t→(M.getD v false=true→p v=true)∧(p v=true→B.getD v false=false)):=by
 have hR:=right_of ck
 have e:=nodes_cut ck hs ht
 rw [capV_ok e,cutC_nodes hR]
 have h1:(fun v:Int=>!(p v.toNat)) n.s=false:=by show (!_)=false;rw [hs];rfl
 have h2:(fun v:Int=>!(p v.toNat)) n.t=true:=by show (!_)=true;rw [ht];rfl
 refine ⟨flow_capP hR h.flow h1 h2,fun v=>⟨h.cut.apart v,fun hc=>?_⟩⟩
 obtain ⟨m1,m2⟩:=h.cut.mid _ h1 h2 hc v
 simp only [Int.toNat_natCast] at m1 m2
 refine ⟨fun hm=>by have:=m1 hm;simpa using this,fun hp=>?_⟩
 cases c:B.getD v false
 ·rfl
 ·have:=m2 c;rw [hp] at this;cases this
theorem Best.other (h:Best n g M B) (ck:checkN n=0) {f:List Int} (hF:Flow n f) {M2 B2:List Bool} (hM:IsReach n f 1 M2) (hB:IsReach (turnN n) f 1 B2) :
  (exc n.l f n.t=exc n.l g n.t→M2=M∧B2=B)∧(exc n.l f n.t≠exc n.l g n.t→M2.getD n.t.toNat false=true∧B2.getD n.s.toNat false=true):=by
 have hR:=right_of ck
 constructor
 ·intro e
  obtain ⟨e1,e2⟩:=cutF_same hR (right_back hR) h.flow hF e.symm h.rm hM h.rb hB h.cut.mt
  exact ⟨e1.symm,e2.symm⟩
 ·intro e
  have:M2.getD n.t.toNat false=true:=by
   cases c:M2.getD n.t.toNat false
   ·have:=(best_of hR hF hM hB c).top g h.flow
    have:=h.top f hF
    exact absurd (by omega) e
   ·rfl
  exact ⟨this,by rw [reach_back hR hM hB];exact this⟩
end
theorem turn_cut {n:Net} (ck:checkN n=0) (ck2:checkN (turnN n)=0) {p:Nat→Bool} (hs:p n.s.toNat=true) (ht:p n.t.toNat=false) :
  cutE (turnN n) (nodesTo (fun v=>!(p v)) n.n.toNat)=0∧arcsV (turnN n) (nodesTo (fun v=>!(p v)) n.n.toNat)=arcsV n (nodesTo p n.n.toNat)∧capV (turnN n) (nodesTo (fun v=>!(p v)) n.n.toNat)=capV n (nodesTo p n.n.toNat):=by
 have hR:=right_of ck
 have hs0:=hR.s0
 have ht0:=hR.t0
 have e1:=nodes_cut ck hs ht
 have e2:cutE (turnN n) (nodesTo (fun v=>!(p v)) n.n.toNat)=0:=nodes_cut ck2 (p:=fun v=>!(p v)) (by show (!(p n.t.toNat))=true;rw [ht];rfl) (by show (!(p n.s.toNat))=false;rw [hs];rfl)
 have ha:∀ i,i<n.l.length→arcAt (n.l.map turnA) i=turnA (arcAt n.l i):=fun i hi=>arcAt_of (by rw [List.getElem?_map,at_arc hi];rfl)
 have key:∀ j,j≤n.l.length→overTo (n.l.map turnA) (nodesTo (fun v=>!(p v)) n.n.toNat) j=overTo n.l (nodesTo p n.n.toNat) j:=by
  intro j
  induction j with
  | zero=>intro _;rfl
  | succ j ih =>
   intro hj
   rw [overTo,overTo,ih (by omega),ha j (by omega)]
   have g1:=hR.fr0 j (by omega);have g2:=hR.fr1 j (by omega);have g3:=hR.to0 j (by omega);have g4:=hR.to1 j (by omega)
   show _ ++ (if hasL _ (arcAt n.l j).to=true∧hasL _ (arcAt n.l j).fr=false then _ else _)=_
   rw [nodes_at _ g1 g2,nodes_at _ g3 g4,nodes_at p g1 g2,nodes_at p g3 g4]
   cases p (arcAt n.l j).fr.toNat <;> cases p (arcAt n.l j).to.toNat <;> simp
 have hA:arcsV (turnN n) (nodesTo (fun v=>!(p v)) n.n.toNat)=arcsV n (nodesTo p n.n.toNat):=by
  rw [arcsV_ok e1,arcsV_ok e2]
  show overTo (n.l.map turnA) _ (n.l.map turnA).length=_
  rw [List.length_map];exact key _ (Nat.le_refl _)
 refine ⟨e2,hA,?_⟩
 rw [← capV_sum,← capV_sum,hA]
 unfold sumV
 congr 1
 rw [List.take_length]
 refine List.map_congr_left fun i hi=>?_
 have hi2:=arcsV_mem hi
 show (arcAt (n.l.map turnA) i.toNat).cap=_
 rw [ha _ (by omega)];rfl
theorem Best.turned {n:Net} {g:List Int} {M B:List Bool} (h:Best n g M B) (ck:checkN n=0) (ck2:checkN (turnN n)=0) :
  IsReach (turnN n) g 1 B∧IsReach (turnN (turnN n)) g 1 M∧Ne.firE (turnN n) g B=0∧Ne.lasE (turnN n) g M=0∧Ne.firV (turnN n) g B=nodesTo (fun v=>B.getD v false) n.n.toNat∧Ne.lasV (turnN n) g M=nodesTo (fun v=>!(M.getD v false)) n.n.toNat:=by
 have hc:chkF (turnN n) g=0:=(calm_chk ck2 (turn_calm h.flow)).1
 have e1:Ne.firE (turnN n) g B=0:=firE_ok hc h.cut.bs
 have e2:Ne.lasE (turnN n) g M=0:=lasE_ok hc h.cut.mt
 exact ⟨h.rb,by rw [turn_turn];exact h.rm,e1,e2,firV_ok e1,lasV_ok e2⟩
theorem others_of (p:Nat→Bool) (n:Net):nodesTo (fun v=>!(hasL (nodesTo p n.n.toNat) (v:Int))) n.n.toNat=nodesTo (fun v=>!(p v)) n.n.toNat :=
 nodes_congr fun v h1 h2=>by rw [nodes_has (by omega) (by omega),Int.toNat_natCast]
end Ne
namespace Ne
section
variable {n:Net} {TL:List Nat} {g:List Int} {x:Int} {RM:List Int} {U:Nat→List Nat} {L:List Int}
theorem first_heads (hR:Right n) (hL:Lds n.l L TL) (hS:Srch n TL g x RM U):∀ {R:List Nat} {u:Int},Wlk n.l TL g x u R n.t→(∀ r∈R,∃ T,U (trF n.l r).toNat=r :: T)→FirstW n.l TL g x n.t u R:=by
 intro R
 induction R with
 | nil =>
  intro u h _
  rcases wlk_inv h with ⟨_,e⟩ | ⟨r,R',e,_⟩
  ·rw [e];exact .done
  ·exact absurd e (by simp)
 | cons r R ih =>
  intro u h hh
  have hlev:=wlk_lev hL h
  rcases wlk_inv h with ⟨e,_⟩ | ⟨r',R',e,eu,hr,hx,hw⟩
  ·exact absurd e (by simp)
  ·obtain ⟨rfl,rfl⟩:r=r'∧R=R':=by simpa using e
   subst eu
   refine .step ?_ hr hx (ih hw fun q hq=>hh q (List.mem_cons_of_mem _ hq)) ?_
   ·intro e
    rw [e] at hlev
    simp at hlev
    omega
   ·intro q hq eq hxq hlt
    obtain ⟨T,hT⟩:=hh r List.mem_cons_self
    have hv:(trF n.l r).toNat<n.n.toNat+1:=by have:=trF_bd hR (hL.lt r hr);omega
    have hs:=hS.srt _ hv
    rw [hT] at hs
    refine hS.gone q hq ?_ hxq
    rw [eq,hT]
    intro hm
    rcases List.mem_cons.1 hm with e | hm
    ·omega
    ·have:=(List.pairwise_cons.1 hs).1 q hm;omega
theorem srch_drop (hS:Srch n TL g x RM U) {v r:Nat} {T:List Nat} (hv:v<n.n.toNat+1) (hU:U v=r :: T) (hI:Idle n.l TL g x n.t r):Srch n TL g x RM (fun w=>if w=v then T else U w):=by
 refine ⟨hS.len,hS.rm,?_,?_,?_⟩
 ·intro w hw q hq
  by_cases c:w=v
  ·subst c
   rw [if_pos rfl] at hq
   exact hS.sub w hw q (by rw [hU];exact List.mem_cons_of_mem _ hq)
  ·rw [if_neg c] at hq
   exact hS.sub w hw q hq
 ·intro w hw
  by_cases c:w=v
  ·subst c
   rw [if_pos rfl]
   have:=hS.srt w hw
   rw [hU] at this
   exact (List.pairwise_cons.1 this).2
  ·rw [if_neg c]
   exact hS.srt w hw
 ·intro q hq hn
  by_cases c:(trF n.l q).toNat=v
  ·rw [if_pos c] at hn
   by_cases c2:q=r
   ·rw [c2];exact hI
   ·refine hS.gone q hq ?_
    rw [c,hU]
    intro hm
    rcases List.mem_cons.1 hm with e | hm
    ·exact c2 e
    ·exact hn hm
  ·rw [if_neg c] at hn
   exact hS.gone q hq hn
theorem srch_none (hS:Srch n TL g x RM U) {v:Int} (hU:U v.toNat=[]) (hne:v≠n.t):∀ R,¬ Wlk n.l TL g x v R n.t:=by
 intro R h
 rcases wlk_inv h with ⟨_,e⟩ | ⟨r,R',_,eu,hr,hx,hw⟩
 ·exact hne e
 ·exact hS.gone r hr (by rw [← eu,hU];simp) hx R' hw
end
end Ne
end Go.Proofs.YthhlfphnokdfaaaGreat
namespace Go.Proofs.YthhlfphnokdfaaaGreat
open Go.ChangeShapes Go.WideShapes Go.ChangeAt Go.RowKit
open Lib (hid)
namespace Sp
structure St where
 v:List Int
 r:Nat→List Nat
abbrev big:Int:=4611686018427387904
structure Good (s:St):Prop where
 mem:∀ x,x<s.v.length→x∈s.r x
 none:∀ x,s.v.length≤x→s.r x=[]
 lt:∀ x y,y∈s.r x→y<s.v.length
 same:∀ x y,y∈s.r x→s.r y=s.r x
 nodup:∀ x,(s.r x).Nodup
 bnd:∀ i,i<s.v.length→-big≤Ne.amt s.v i∧Ne.amt s.v i≤big
 small:s.v.length≤3000
section
variable {s:St}
theorem Good.ne_nil (h:Good s) {x:Nat} (hx:x<s.v.length):s.r x≠[]:=fun e=>by have:=h.mem x hx;rw [e] at this;simp at this
theorem Good.nil_iff (h:Good s) {x:Nat}:s.r x=[]↔s.v.length≤x:=by
 constructor
 ·intro e
  rcases Nat.lt_or_ge x s.v.length with c | c
  ·exact absurd e (h.ne_nil c)
  ·exact c
 ·exact h.none x
theorem len_le {l:List Nat} {n:Nat} (hn:l.Nodup) (hl:∀ y∈l,y<n):l.length≤n:=Ne.nodup_len hn hl
theorem Good.len (h:Good s) (x:Nat):(s.r x).length≤s.v.length:=len_le (h.nodup x) (h.lt x)
end
def rowZ (s:St) (x:Int):List Nat:=if x<0 then [] else s.r x.toNat
theorem rowZ_nat (s:St) (x:Nat):rowZ s (x:Int)=s.r x:=by unfold rowZ;rw [if_neg (by omega)];simp
theorem rowZ_nil {s:St} (h:Good s) {x:Int}:rowZ s x=[]↔x<0∨(s.v.length:Int)≤x:=by
 unfold rowZ
 by_cases c:x<0
 ·rw [if_pos c];simp [c]
 ·rw [if_neg c,h.nil_iff];omega
theorem rowZ_lt {s:St} (h:Good s) {x:Int} {y:Nat} (hy:y∈rowZ s x):y<s.v.length:=by
 unfold rowZ at hy
 split at hy
 ·simp at hy
 ·exact h.lt _ _ hy
theorem rowZ_len {s:St} (h:Good s) (x:Int):(rowZ s x).length≤s.v.length:=by
 unfold rowZ
 split
 ·simp
 ·exact h.len _
theorem rowZ_self {s:St} (h:Good s) {x:Int} (hx:rowZ s x≠[]):x.toNat∈rowZ s x∧0≤x∧x.toNat<s.v.length:=by
 have:=mt (rowZ_nil h (x:=x)).2 hx
 have h2:x.toNat<s.v.length:=by omega
 refine ⟨?_,by omega,h2⟩
 unfold rowZ;rw [if_neg (by omega)]
 exact h.mem _ h2
theorem rowZ_nodup {s:St} (h:Good s) (x:Int):(rowZ s x).Nodup:=by
 unfold rowZ
 split
 ·simp
 ·exact h.nodup _
theorem rowZ_same {s:St} (h:Good s) {x:Int} {y:Nat} (hy:y∈rowZ s x):s.r y=rowZ s x:=by
 unfold rowZ at hy ⊢
 split at hy
 ·simp at hy
 ·rename_i c;rw [if_neg c];exact h.same _ _ hy
def firstZ (s:St) (x:Int):Int:=match rowZ s x with | []=>-1 | a :: _=>(a:Int)
def lastZ (s:St) (x:Int):Int:=match (rowZ s x).getLast? with | none=>-1 | some a=>(a:Int)
def atL (l:List Nat) (p:Int):Int:=if p<0 then -1 else match l[p.toNat]? with | none=>-1 | some a=>(a:Int)
def atZ (s:St) (x p:Int):Int:=atL (rowZ s x) p
def placeZ (s:St) (x:Int):Int:=if rowZ s x=[] then -1 else ((rowZ s x).idxOf x.toNat:Nat)
def valZ (s:St) (x:Int):Int:=if x<0 then 0 else Ne.amt s.v x.toNat
def leastL (v:List Int) (l:List Nat):Int:=l.foldl (fun (b:Int) i=>if b<0∨Ne.amt v i<Ne.amt v b.toNat then (i:Int) else b) (-1)
def leastZ (s:St) (x:Int):Int:=leastL s.v (rowZ s x)
def joinE (s:St) (a b:Int):Int:=if rowZ s a=[]∨rowZ s b=[] then 4 else if b.toNat∈rowZ s a then 5 else 0
def joinR (s:St) (a b:Int):St:=⟨s.v,fun y=>if y∈rowZ s a∨y∈rowZ s b then rowZ s a ++ rowZ s b else s.r y⟩
def joinS (s:St) (a b:Int):St:=if joinE s a b=0 then joinR s a b else s
def splitE (s:St) (x:Int):Int:=if rowZ s x=[] then 4 else 0
def cutR (s:St) (l:List Nat) (k:Nat):St:=⟨s.v,fun y=>if y∈l.take k then l.take k else if y∈l.drop k then l.drop k else s.r y⟩
def splitS (s:St) (x:Int):St:=cutR s (rowZ s x) ((rowZ s x).idxOf x.toNat)
def fits (v d:Int):Bool:=if 0≤d then decide (v≤big-d) else decide (-big-d≤v)
def addE (s:St) (x d:Int):Int:=if rowZ s x=[] then 4 else if ∀ i∈rowZ s x,fits (Ne.amt s.v i) d=true then 0 else 3
def addL (v:List Int) (l:List Nat) (d:Int):List Int:=(List.range v.length).map fun i=>if i∈l then Ne.amt v i+d else Ne.amt v i
def addS (s:St) (x d:Int):St:=if addE s x d=0 then ⟨addL s.v (rowZ s x) d,s.r⟩ else s
def newE (vs:List Int):Int:=if 3000<vs.length then 1 else if ∀ i,i<vs.length→-big≤Ne.amt vs i∧Ne.amt vs i≤big then 0 else 3
def newS (vs:List Int):St:=⟨vs,fun x=>if x<vs.length then [x] else []⟩
theorem addL_len (v:List Int) (l:List Nat) (d:Int):(addL v l d).length=v.length:=by simp [addL]
theorem addL_at {v:List Int} {l:List Nat} {d:Int} {i:Nat} (h:i<v.length):Ne.amt (addL v l d) i=if i∈l then Ne.amt v i+d else Ne.amt v i:=by simp [addL,Ne.amt,h]
theorem fits_iff (v d:Int) (hv:-big≤v∧v≤big):fits v d=true↔-big≤v+d∧v+d≤big:=by
 unfold fits
 split <;> simp <;> omega
section
variable {s:St}
theorem good_new {vs:List Int} (h:newE vs=0):Good (newS vs):=by
 unfold newE at h
 split at h
 ·cases h
 ·split at h
  ·rename_i h1 h2
   refine ⟨fun x hx=>?_,fun x hx=>?_,fun x y hy=>?_,fun x y hy=>?_,fun x=>?_,h2,by show vs.length≤3000;omega⟩
   ·have hx':x<vs.length:=hx
    show x∈(if x<vs.length then [x] else []);rw [if_pos hx'];simp
   ·have hx':vs.length≤x:=hx
    show (if x<vs.length then [x] else [])=[];rw [if_neg (by omega)]
   ·have hy':y∈(if x<vs.length then [x] else []):=hy
    split at hy'
    ·simp at hy';subst hy';assumption
    ·simp at hy'
   ·have hy':y∈(if x<vs.length then [x] else []):=hy
    split at hy'
    ·simp at hy';subst hy';rfl
    ·simp at hy'
   ·show (if x<vs.length then [x] else []).Nodup
    split <;> simp
  ·cases h
theorem good_part (h:Good s) {l A B:List Nat} {x:Int} (hl:rowZ s x=l) (hne:l≠[]) {r:Nat→List Nat} (hr:∀ y,y ∉ l→r y=s.r y) (hA:∀ y,y∈l→y∈r y∧(∀ z∈r y,z∈l)∧(∀ z∈r y,r z=r y)∧(r y).Nodup):Good ⟨s.v,r⟩:=by
 have hlt:∀ y∈l,y<s.v.length:=fun y hy=>rowZ_lt h (by rw [hl];exact hy)
 have hs:∀ y∈l,s.r y=l:=fun y hy=>by rw [rowZ_same h (by rw [hl];exact hy),hl]
 have hout:∀ x z,x ∉ l→z∈s.r x→z ∉ l:=fun x z hx hz hz2=>by
  have e1:=hs z hz2
  have e2:=h.same x z hz
  rcases Nat.lt_or_ge x s.v.length with c | c
  ·exact hx (by rw [← e1,e2];exact h.mem x c)
  ·rw [h.none x c] at hz;simp at hz
 refine ⟨fun x hx=>?_,fun x hx=>?_,fun x y hy=>?_,fun x y hy=>?_,fun x=>?_,h.bnd,h.small⟩
 ·by_cases c:x∈l
  ·exact (hA x c).1
  ·show x∈r x;rw [hr x c];exact h.mem x hx
 ·have c:x ∉ l:=fun c=>by have:=hlt x c;have hx':s.v.length≤x:=hx;omega
  show r x=[];rw [hr x c];exact h.none x hx
 ·have hy':y∈r x:=hy
  show y<s.v.length
  by_cases c:x∈l
  ·exact hlt y ((hA x c).2.1 y hy')
  ·rw [hr x c] at hy';exact h.lt x y hy'
 ·have hy':y∈r x:=hy
  show r y=r x
  by_cases c:x∈l
  ·exact (hA x c).2.2.1 y hy'
  ·rw [hr x c] at hy' ⊢
   rw [hr y (hout x y c hy')]
   exact h.same x y hy'
 ·show (r x).Nodup
  by_cases c:x∈l
  ·exact (hA x c).2.2.2
  ·rw [hr x c];exact h.nodup x
theorem good_cut (h:Good s) (x:Int) (k:Nat):Good (cutR s (rowZ s x) k):=by
 by_cases hne:rowZ s x=[]
 ·have:(cutR s (rowZ s x) k)=s:=by unfold cutR;rw [hne];simp
  rw [this];exact h
 ·generalize hl:rowZ s x=l at *
  have hnd:l.Nodup:=by rw [← hl];exact rowZ_nodup h x
  have hd:∀ y,y∈l.take k→y ∉ l.drop k:=fun y h1 h2=>by
   have:=List.take_append_drop k l
   rw [← this] at hnd
   exact (List.nodup_append.1 hnd).2.2 y h1 y h2 rfl
  have e1:∀ z∈l.take k,(cutR s l k).r z=l.take k:=fun z hz=>by show (if _ then _ else _)=_;rw [if_pos hz]
  have e2:∀ z∈l.drop k,(cutR s l k).r z=l.drop k:=fun z hz=>by show (if _ then _ else _)=_;rw [if_neg (fun c=>hd z c hz),if_pos hz]
  refine good_part h hl hne (r:=(cutR s l k).r) (A:=[]) (B:=[]) (fun y hy=>?_) (fun y hy=>?_)
  ·show (if _ then _ else _)=_
   rw [if_neg (fun c=>hy (List.mem_of_mem_take c)),if_neg (fun c=>hy (List.mem_of_mem_drop c))]
  ·rw [← List.take_append_drop k l] at hy
   rcases List.mem_append.1 hy with c | c
   ·rw [e1 y c]
    exact ⟨c,fun z hz=>List.mem_of_mem_take hz,fun z hz=>e1 z hz,hnd.sublist (List.take_sublist _ _)⟩
   ·rw [e2 y c]
    exact ⟨c,fun z hz=>List.mem_of_mem_drop hz,fun z hz=>e2 z hz,hnd.sublist (List.drop_sublist _ _)⟩
theorem good_split (h:Good s) (x:Int):Good (splitS s x):=good_cut h x _
theorem good_join (h:Good s) (a b:Int):Good (joinS s a b):=by
 unfold joinS
 split
 ·rename_i e
  unfold joinE at e
  split at e
  ·cases e
  ·split at e
   ·cases e
   ·rename_i h1 h2
    have ha:rowZ s a≠[]:=fun c=>h1 (.inl c)
    have hb:rowZ s b≠[]:=fun c=>h1 (.inr c)
    have hb2:=rowZ_self h hb
    have hdis:∀ y,y∈rowZ s a→y ∉ rowZ s b:=fun y hy hy2=>by
     apply h2
     have e1:=rowZ_same h hy
     have e2:=rowZ_same h hy2
     rw [← e1,e2];exact hb2.1
    have hnd:(rowZ s a ++ rowZ s b).Nodup:=List.nodup_append.2 ⟨rowZ_nodup h a,rowZ_nodup h b,fun x hx y hy e=>hdis x hx (e▸hy)⟩
    have hs:∀ y,y∈rowZ s a∨y∈rowZ s b→(joinR s a b).r y=rowZ s a ++ rowZ s b:=fun y hy=>by show (if _ then _ else _)=_;rw [if_pos hy]
    have hn:∀ y,¬ (y∈rowZ s a∨y∈rowZ s b)→(joinR s a b).r y=s.r y:=fun y hy=>by show (if _ then _ else _)=_;rw [if_neg hy]
    have hout:∀ x z,¬ (x∈rowZ s a∨x∈rowZ s b)→z∈s.r x→¬ (z∈rowZ s a∨z∈rowZ s b):=fun x z hx hz hz2=>by
     apply hx
     have hxx:x∈s.r z:=by
      rw [h.same x z hz]
      rcases Nat.lt_or_ge x s.v.length with c | c
      ·exact h.mem x c
      ·rw [h.none x c] at hz;simp at hz
     rcases hz2 with c | c
     ·left;rw [rowZ_same h c] at hxx;exact hxx
     ·right;rw [rowZ_same h c] at hxx;exact hxx
    refine ⟨fun x hx=>?_,fun x hx=>?_,fun x y hy=>?_,fun x y hy=>?_,fun x=>?_,h.bnd,h.small⟩
    ·by_cases c:x∈rowZ s a∨x∈rowZ s b
     ·rw [hs x c];exact List.mem_append.2 c
     ·rw [hn x c];exact h.mem x hx
    ·have c:¬ (x∈rowZ s a∨x∈rowZ s b):=fun c=>by
      have hx':s.v.length≤x:=hx
      rcases c with c | c
      ·have:=rowZ_lt h c;omega
      ·have:=rowZ_lt h c;omega
     rw [hn x c];exact h.none x hx
    ·show y<s.v.length
     by_cases c:x∈rowZ s a∨x∈rowZ s b
     ·rw [hs x c] at hy
      rcases List.mem_append.1 hy with c | c
      ·exact rowZ_lt h c
      ·exact rowZ_lt h c
     ·rw [hn x c] at hy;exact h.lt x y hy
    ·by_cases c:x∈rowZ s a∨x∈rowZ s b
     ·rw [hs x c] at hy ⊢;exact hs y (List.mem_append.1 hy)
     ·rw [hn x c] at hy ⊢;rw [hn y (hout x y c hy)];exact h.same x y hy
    ·by_cases c:x∈rowZ s a∨x∈rowZ s b
     ·rw [hs x c];exact hnd
     ·rw [hn x c];exact h.nodup x
 ·exact h
theorem addE_fits {x d:Int} (e:addE s x d=0):rowZ s x≠[]∧∀ i∈rowZ s x,fits (Ne.amt s.v i) d=true:=by
 unfold addE at e
 split at e
 ·cases e
 ·split at e
  ·rename_i h1 h2;exact ⟨h1,h2⟩
  ·cases e
theorem good_add (h:Good s) (x d:Int):Good (addS s x d):=by
 unfold addS
 split
 ·rename_i e
  have hl:=addL_len s.v (rowZ s x) d
  refine ⟨fun y hy=>h.mem y (by have:y<(addL s.v (rowZ s x) d).length:=hy;omega),fun y hy=>h.none y (by have:(addL s.v (rowZ s x) d).length≤y:=hy;omega),fun y z hz=>by show z<(addL s.v (rowZ s x) d).length;rw [hl];exact h.lt y z hz,h.same,h.nodup,fun i hi=>?_,by show (addL s.v (rowZ s x) d).length≤3000;rw [hl];exact h.small⟩
  have hi':i<s.v.length:=by have:i<(addL s.v (rowZ s x) d).length:=hi;omega
  show -big≤Ne.amt (addL s.v (rowZ s x) d) i∧_
  rw [addL_at hi']
  split
  ·rename_i c
   exact (fits_iff _ _ (h.bnd i hi')).1 ((addE_fits e).2 i c)
  ·exact h.bnd i hi'
 ·exact h
end
end Sp
end Go.Proofs.YthhlfphnokdfaaaGreat
namespace Go.Proofs.YthhlfphnokdfaaaGreat
namespace St
theorem log_mono {a b:Nat} (h:a≤b):a.log2≤b.log2:=by
 by_cases ha:a=0
 ·subst ha;simp
 ·exact (Nat.le_log2 (by omega)).2 (Nat.le_trans (Nat.log2_self_le ha) h)
theorem log_two {a b c:Nat} (ha:1≤a) (hb:1≤b) (h:a+b<c):a.log2+b.log2+1≤2*c.log2:=by
 have key:∀ {a b c:Nat},1≤a→1≤b→a+b<c→a.log2≤b.log2→a.log2+b.log2+1≤2*c.log2:=by
  intro a b c ha hb h hab
  have h1:b.log2≤c.log2:=log_mono (a:=b) (b:=c) (by omega)
  by_cases e:b.log2=c.log2
  ·have h2:=Nat.log2_self_le (n:=b) (by omega)
   have h3:c<2 ^ (c.log2+1):=Nat.lt_log2_self
   rw [e] at h2
   rw [Nat.pow_succ] at h3
   have h4:a.log2<c.log2:=(Nat.log2_lt (by omega)).2 (by omega)
   omega
  ·omega
 rcases Nat.le_total a.log2 b.log2 with c1 | c1
 ·exact key ha hb h c1
 ·have:=key (a:=b) (b:=a) (c:=c) hb ha (by omega) c1
  omega
end St
end Go.Proofs.YthhlfphnokdfaaaGreat
