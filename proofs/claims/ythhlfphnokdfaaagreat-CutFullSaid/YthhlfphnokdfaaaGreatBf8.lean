/-
  Fchk, Flc, Res1, Walkd, Res2
-/
import Derived.Test.YthhlfphnokdfaaaGreatBf7
import Derived.Test.YthhlfphnokdfaaaGreatBf3
import Derived.Test.YthhlfphnokdfaaaGreatBf5
import Derived.BigQuiet
import Derived.Test.YthhlfphnokdfaaaGreatBf2
set_option linter.unusedVariables false
set_option linter.unusedSimpArgs false
set_option maxRecDepth 100000
set_option maxHeartbeats 4000000
namespace Go.Proofs.YthhlfphnokdfaaaGreat
open Go.ChangeShapes Go.WideShapes Go.ChangeAt Go.RowKit
open Lib (hid)
namespace Ne
theorem irow_ofL {w:World} {B:Nat} {x:Value} {l:List Int} (h:OwnL w B x l):∃ ao cap,x=.slice ao l.length cap∧(ao=none→cap=0)∧IRow w ao l:=by
 obtain ⟨ao,cap,h1,_,_,h4,h5,_⟩:=Rw.own_row encI_len h
 exact ⟨ao,cap,h1,h4,h5⟩
theorem excs_s (n:Net) (ao:Option Addr) (cap:Nat) (fo:Option Addr) (fc:Nat) (f:List Int) (w:World) (hr:ARow w ao n.l) (hf:IRow w fo f) (hc:chkA n f=0) :
  Calls Tryz.prog 24 #[encN n ao cap,.slice fo f.length fc] w fun e w'=>∃ o c,e=.returned (.slice o (n.n.toNat+1) c)∧IRow w' o (excL n.l f (n.n.toNat+1))∧Below w.heap.size w w' :=
 (excs_any n ao cap fo fc f w hr hf hc).mono fun e w' ⟨v,h1,h2,h3⟩=>by
  obtain ⟨o,c,hx,_,hi⟩:=irow_ofL h2
  rw [excL_len] at hx
  exact ⟨o,c,by rw [h1,hx],hi,h3⟩
theorem excL_cell {w:World} {o:Option Addr} {l:List Arc} {f:List Int} {k i:Nat} (h:IRow w o (excL l f k)) (hi:i<k):∃ b off,o=some ⟨b,off,none⟩∧w.cell? ⟨b,off+i,none⟩=some (.int .i64 (exc l f (i:Int))):=by
 obtain ⟨b,off,h1,_,h2⟩:=irow_cell h (i:=i) (by rw [excL_len];exact hi)
 rw [amt_of (excL_at l f hi)] at h2
 exact ⟨b,off,h1,h2⟩
theorem ret2' {a b c d:Int} (h1:a=c) (h2:b=d):Ending.returned (.tuple #[.int .i64 a,.int .i64 b])=.returned (.tuple #[.int .i64 c,.int .i64 d]):=by rw [h1,h2]

section
variable (n:Net) (ao:Option Addr) (cap:Nat) (fo:Option Addr) (fc:Nat) (f:List Int) (w:World) (hr:ARow w ao n.l) (hf:IRow w fo f) (hl:n.l.length≤1000000) (hok:∀ a∈n.l,in64 a.cap)
include hr hf hl hok
theorem fchk_any:Calls Tryz.prog 23 #[encN n ao cap,.slice fo f.length fc] w fun e w'=>e=.returned (.int .i64 (chkF n f))∧Below w.heap.size w w':=by
 have AM:=hid (fun w' (h1:ARow w' ao n.l) (h2:IRow w' fo f)=>amts_any n ao cap fo fc f w' h1 h2 hl hok)
 by_cases c0:chkA n f=0
 case neg =>
  have HE:=hid (show chkF n f=chkA n f by unfold chkF;rw [if_pos c0])
  generalize chkF n f=R at *
  generalize chkA n f=c at *
  generalize f.length=fl at *
  obtain ⟨nn,ns,nt,l⟩:=n
  simp only at hr AM ⊢
  have HB0:=hid ((Below.refl w.heap.size w).alloc (Nat.le_refl _) (.cells #[.int .i64 nn,.int .i64 ns,.int .i64 nt,.slice ao l.length cap] 27))
  have c1':(c == 0)=false:=by simpa using c0
  have c1n:(c != 0)=true:=by simpa using c0
  have HR:=hid (hr.kept HB0.out)
  have HF:=hid (hf.kept HB0.out)
  clear hr hf hok c0
  go_enter Tryz.func23,Tryz.ntmps23
  go_wp2_with fail
  refine (AM.out _ HR.out HF.out).mono ?_
  rintro e w1 ⟨rfl,hb⟩
  have HB1:=hid (HB0.out.trans (hb.mono (by simp)))
  clear hb
  go_wp2
  go_ret
  exact ⟨retI HE.out.symm,HB1.out⟩
 have HE:=hid (show calm n f→chkF n f=0 from fun h=>chkF_in c0 h)
 have HE2:=hid (show ¬ calm n f→chkF n f=9 from fun h=>by unfold chkF;rw [if_neg (by simpa using c0),if_neg h])
 have XS:=hid (fun w' (h1:ARow w' ao n.l) (h2:IRow w' fo f)=>excs_s n ao cap fo fc f w' h1 h2 c0)
 rw [c0] at AM
 obtain ⟨-,RT,-,-⟩:=chkA_ok c0
 have hN0:=RT.n0
 have hN1:=RT.n1
 clear RT c0
 generalize chkF n f=R at *
 generalize f.length=fl at *
 obtain ⟨nn,ns,nt,l⟩:=n
 simp only at hr AM XS HE HE2 hN0 hN1 ⊢
 obtain ⟨N,rfl⟩:∃ N:Nat,nn=(N:Int):=⟨nn.toNat,by omega⟩
 simp only [Int.toNat_natCast] at XS
 have HB0:=hid ((Below.refl w.heap.size w).alloc (Nat.le_refl _) (.cells #[.int .i64 (N:Int),.int .i64 ns,.int .i64 nt,.slice ao l.length cap] 27))
 have HN0:=hid (netBox_new w (N:Int) ns nt (.slice ao l.length cap))
 have HR:=hid (hr.kept HB0.out)
 have HF:=hid (hf.kept HB0.out)
 clear hr hf hok
 go_enter Tryz.func23,Tryz.ntmps23
 go_wp2_with fail
 refine (AM.out _ HR.out HF.out).mono ?_
 rintro e w1 ⟨rfl,hb⟩
 have HB1:=hid (HB0.out.trans (hb.mono (by simp)))
 have HN1:=hid (netBox_below HN0.out hb (by simp))
 have HR1:=hid (HR.out.kept hb)
 have HF1:=hid (HF.out.kept hb)
 obtain ⟨n0,n1,n2,n3⟩:=netBox_cells HN1.out
 clear hb
 go_wp2_with fail
 refine (XS.out _ HR1.out HF1.out).mono ?_
 rintro e w2 ⟨o,c,rfl,hx,hb⟩
 have HB2:=hid (HB1.out.trans (hb.mono HB1.out.size))
 have HN2:=hid (netBox_below HN1.out hb (netBox_lt HN1.out))
 have HX:=hid hx
 have HNS:=hid (show calm ⟨N,ns,nt,l⟩ f↔∀ v:Nat,v<N+1→(v:Int)≠ns→(v:Int)≠nt→exc l f v=0 by unfold calm;simp only [Int.toNat_natCast])
 clear hb hx n0 n1 n2 n3 HB0 HB1 HN0 HN1 HR HR1 HF HF1 AM XS
 go_wp2
 go_loopw [18] (fun i wr=>∃ k:Nat,i=.int .i64 k∧k≤N+1∧wr=w2∧Hid (∀ v:Nat,v<k→(v:Int)≠ns→(v:Int)≠nt→exc l f v=0)) (fun i _=>N+1-(intOf i).toNat)
 case atStart=>exact ⟨0,rfl,Nat.zero_le _,rfl,hid (fun i hi=>absurd hi (by omega))⟩
 case round =>
  obtain ⟨k,rfl,hk,rfl,HW⟩:=hrel
  by_cases hlt:k<N+1
  ·obtain ⟨b,off,rfl,d0⟩:=excL_cell HX.out hlt
   obtain ⟨n0,n1,n2,n3⟩:=netBox_cells HN2.out
   have hki:(k:Int)<(N:Int)+1:=by omega
   have hk0:(0:Int)≤(k:Int):=by omega
   have HST:=hid (show ((k:Int)≠ns→(k:Int)≠nt→exc l f k=0)→∀ v:Nat,v<k+1→(v:Int)≠ns→(v:Int)≠nt→exc l f v=0 from fun h v hv h1 h2=>by
    by_cases e:v=k
    ·subst e;exact h h1 h2
    ·exact HW.out v (by omega) h1 h2)
   have HBD:=hid (show (k:Int)≠ns→(k:Int)≠nt→exc l f k≠0→R=9 from fun h1 h2 h3=>HE2.out (fun hc=>h3 ((HNS.out.1 hc) k hlt h1 h2)))
   generalize exc l f (k:Int)=x at *
   by_cases p1:(k:Int)=ns
   ·have p1':((k:Int) == ns)=true:=by simpa using p1
    have p1n:((k:Int) != ns)=false:=by simpa using p1
    have HS2:=hid (HST.out (fun h=>absurd p1 h))
    clear p1
    go_wp2
    go_roundw
    case rel=>exact ⟨k+1,by go_num,by omega,by trivial,HS2⟩
    case measure=>simp [intOf];omega
   ·have p1':((k:Int) == ns)=false:=by simpa using p1
    have p1n:((k:Int) != ns)=true:=by simpa using p1
    by_cases p2:(k:Int)=nt
    ·have p2':((k:Int) == nt)=true:=by simpa using p2
     have p2n:((k:Int) != nt)=false:=by simpa using p2
     have HS2:=hid (HST.out (fun _ h=>absurd p2 h))
     clear p1 p2
     go_wp2
     go_roundw
     case rel=>exact ⟨k+1,by go_num,by omega,by trivial,HS2⟩
     case measure=>simp [intOf];omega
    ·have p2':((k:Int) == nt)=false:=by simpa using p2
     have p2n:((k:Int) != nt)=true:=by simpa using p2
     by_cases p3:x=0
     ·have p3':(x == 0)=true:=by simpa using p3
      have p3n:(x != 0)=false:=by simpa using p3
      have HS2:=hid (HST.out (fun _ _=>p3))
      clear p1 p2 p3
      go_wp2
      go_roundw
      case rel=>exact ⟨k+1,by go_num,by omega,by trivial,HS2⟩
      case measure=>simp [intOf];omega
     ·have p3':(x == 0)=false:=by simpa using p3
      have p3n:(x != 0)=true:=by simpa using p3
      have HR9:=hid (HBD.out p1 p2 p3)
      clear p1 p2 p3
      go_wp2
      go_ret
      exact ⟨retI HR9.out.symm,HB2.out⟩
  ·have ek:k=N+1:=by omega
   subst ek
   have HR0:=hid (HE.out (HNS.out.2 HW.out))
   go_wp2
   go_ret
   exact ⟨retI HR0.out.symm,HB2.out⟩

end
end Ne
namespace Ne
theorem arow_ofA {w:World} {B n cap:Nat} {ao:Option Addr} {l:List Arc} (h:OwnA w B (.slice ao n cap) l):ARow w ao l:=by
 obtain ⟨ao',cap',h1,_,_,h4,h5,_⟩:=Rw.own_row encA_len h
 simp only [Value.slice.injEq] at h1
 obtain ⟨rfl,rfl,rfl⟩:=h1
 exact h5
theorem cap_64 {n:Net} (hR:Right n):∀ a∈n.l,in64 a.cap:=by
 intro a ha
 obtain ⟨i,hi,rfl⟩:=List.mem_iff_getElem.1 ha
 have e:arcAt n.l i=n.l[i]:=by simp [arcAt,hi]
 have h0:=hR.cap0 i hi
 have e1:capS n.l (i+1)≤capS n.l n.l.length:=sumTo_mono hR.cap0 (by omega)
 have e2:0≤capS n.l i:=sumTo_nn fun j hj=>hR.cap0 j (by omega)
 have e3:capS n.l (i+1)=capS n.l i+(arcAt n.l i).cap:=rfl
 have:=hR.sum
 rw [e] at h0 e3
 unfold in64;omega
section
variable {n:Net} (ao:Option Addr) (cap:Nat) (fo:Option Addr) (fc:Nat) {f:List Int} (w:World) (ck:checkN n=0) (hr:ARow w ao n.l) (hf:IRow w fo f)
include ck hr hf
end
theorem ownL_cell {w:World} {B g n cap:Nat} {l:List Int} (h:OwnL w B (.slice (some ⟨g,0,none⟩) n cap) l) {i:Nat} (hi:i<l.length):w.cell? ⟨g,i,none⟩=some (.int .i64 (amt l i))∧w.frozen? ⟨g,i,none⟩=false:=by
 obtain ⟨g',e,_,_,h1,h2⟩:=own_cells encI_len h (at_amt hi)
 cases e
 exact ⟨by simpa using h1 0 _ rfl,h2 i⟩
theorem ownL_put {w:World} {B g n cap:Nat} {l:List Int} (h:OwnL w B (.slice (some ⟨g,0,none⟩) n cap) l) {i:Nat} (hi:i<l.length) (y:Int):OwnL (w.setCell ⟨g,i,none⟩ (.int .i64 y)) B (.slice (some ⟨g,0,none⟩) n cap) (l.set i y):=by
 have:=own_put encI_len h (at_amt hi) (j:=0) (by decide) (u:=.int .i64 y) (y:=y) rfl
 simpa using this
theorem irow_ofL' {w:World} {B n c:Nat} {o:Option Addr} {l:List Int} (h:OwnL w B (.slice o n c) l):IRow w o l:=by
 obtain ⟨ao,cap,h1,_,_,_,h5,_⟩:=Rw.own_row encI_len h
 simp only [Value.slice.injEq] at h1
 obtain ⟨rfl,_,rfl⟩:=h1
 exact h5
theorem ownL_row' {w:World} {B:Nat} {v:Value} {l:List Int} (h:OwnL w B v l) (h0:0<l.length):∃ g c,v=.slice (some ⟨g,0,none⟩) l.length c∧B≤g∧g<w.heap.size:=by
 obtain ⟨ao,cap,h1,_,_,_,h5,h6,h7⟩:=Rw.own_row encI_len h
 rcases h5 with h | ⟨b,off,rfl,_,_⟩
 ·rw [h] at h0;simp at h0
 ·obtain ⟨b',e⟩:=h7 _ rfl
  cases e
  exact ⟨b,cap,h1,(h6 b 0 rfl).1,(h6 b 0 rfl).2⟩
end Ne
namespace Ne
theorem tdiv2 {r q:Nat} (h:q=r / 2):(r:Int).tdiv 2=(q:Int):=by
 subst h;rw [Int.tdiv_eq_ediv_of_nonneg (by omega)];omega
theorem tmod2 (r:Nat):(r:Int).tmod 2=((r % 2:Nat):Int):=by
 rw [Int.tmod_eq_emod_of_nonneg (by omega)];omega
theorem tracks_any (n:Net) (ao:Option Addr) (cap:Nat) (w:World) (hl:n.l.length≤1000000) :
  Calls Tryz.prog 41 #[encN n ao cap] w fun e w'=>e=.returned (.int .i64 (2*(n.l.length:Int)))∧Below w.heap.size w w':=by
 obtain ⟨nn,ns,nt,l⟩:=n
 simp only at hl ⊢
 have HB0:=hid ((Below.refl w.heap.size w).alloc (Nat.le_refl _) (.cells #[.int .i64 nn,.int .i64 ns,.int .i64 nt,.slice ao l.length cap] 27))
 go_enter Tryz.func41,Tryz.ntmps41
 go_wp2
 go_ret
 exact ⟨rfl,HB0.out⟩
theorem goesBack_any (r:Nat) (w:World) (hr:r≤4000000) :
  Calls Tryz.prog 50 #[.int .i64 (r:Int)] w fun e w'=>e=.returned (.bool (decide (r % 2=1)))∧w=w':=by
 have HE:=hid (tmod2 r)
 go_enter Tryz.func50,Tryz.ntmps50
 go_wp2
 go_ret
 refine ⟨retB ?_,rfl⟩
 have:=HE.out
 first
 | (rw [this];by_cases c:r % 2=1
    ·simp [c]
    ·have:r % 2=0:=by omega
     simp [this])
 | (by_cases c:r % 2=1
    ·simp [c];omega
    ·simp [c];omega)
theorem room_any (n:Net) (ao:Option Addr) (cap:Nat) (fo:Option Addr) (fc:Nat) (f:List Int) (r:Nat) (w:World) (hr:ARow w ao n.l) (hf:IRow w fo f) (hl:n.l.length≤1000000) (hfl:f.length=n.l.length) (hr2:r<2*n.l.length) (hb:in64 (roomN n.l f r)) :
  Calls Tryz.prog 42 #[encN n ao cap,.slice fo n.l.length fc,.int .i64 (r:Int)] w fun e w'=>e=.returned (.int .i64 (roomN n.l f r))∧Below w.heap.size w w':=by
 have GB:=hid (fun w'=>goesBack_any r w' (by omega))
 obtain ⟨nn,ns,nt,l⟩:=n
 simp only at hr hl hfl hr2 hb ⊢
 have HB0:=hid ((Below.refl w.heap.size w).alloc (Nat.le_refl _) (.cells #[.int .i64 nn,.int .i64 ns,.int .i64 nt,.slice ao l.length cap] 27))
 have HN0:=hid (netBox_new w nn ns nt (.slice ao l.length cap))
 have HR:=hid (hr.kept HB0.out)
 have HF:=hid (hf.kept HB0.out)
 clear hr hf
 obtain ⟨q,hq⟩:∃ q,q=r / 2:=⟨_,rfl⟩
 have hql:q<l.length:=by omega
 have hqI:(q:Int)<(l.length:Int):=by omega
 have hq0:(0:Int)≤(q:Int):=by omega
 have htd:=tdiv2 hq
 obtain ⟨b2,off2,rfl,hbl2,d0⟩:=irow_cell HF.out (i:=q) (by omega)
 obtain ⟨b,off,rfl,hbl,c0,c1,c2⟩:=arow_cell HR.out hql
 have HE1:=hid (show r % 2=1→roomN l f r=amt f q from fun h=>by unfold roomN;rw [if_pos h,hq])
 have HE2:=hid (show ¬ r % 2=1→roomN l f r=(arcAt l q).cap-amt f q from fun h=>by unfold roomN;rw [if_neg h,hq])
 generalize roomN l f r=R at *
 generalize amt f q=x at *
 generalize arcAt l q=a at *
 obtain ⟨fr,tov,ca⟩:=a
 simp only at c0 c1 c2 HE1 HE2
 by_cases c:r % 2=1
 ·have HE:=hid (HE1.out c)
  have hd:decide (r % 2=1)=true:=by simpa using c
  rw [hd] at GB
  clear hd c HE1 HE2 hq hfl hr2 hb
  go_enter Tryz.func42,Tryz.ntmps42
  go_wp2_with fail
  generalize (w.alloc (.cells #[.int .i64 nn,.int .i64 ns,.int .i64 nt,.slice (some ⟨b,off,none⟩) l.length cap] 27))=W0 at *
  refine (GB.out _).mono ?_
  rintro e w' ⟨rfl,rfl⟩
  go_wp2
  go_ret
  exact ⟨retI HE.out.symm,HB0.out⟩
 ·have HE:=hid (HE2.out c)
  have hd:decide (r % 2=1)=false:=by simpa using c
  rw [hd] at GB
  have hw:IntKind.i64.wrap (ca-x)=ca-x:=by rw [IntKind.wrap_i64];have:=HE2.out c;unfold in64 at hb;omega
  clear hd c HE1 HE2 hq hfl hr2 hb
  go_enter Tryz.func42,Tryz.ntmps42
  go_wp2_with fail
  obtain ⟨n0,n1,n2,n3⟩:=netBox_cells HN0.out
  generalize (w.alloc (.cells #[.int .i64 nn,.int .i64 ns,.int .i64 nt,.slice (some ⟨b,off,none⟩) l.length cap] 27))=W0 at *
  refine (GB.out _).mono ?_
  rintro e w' ⟨rfl,rfl⟩
  go_wp2
  go_quiet (fail)
  go_wp2
  go_ret
  exact ⟨retI HE.out.symm,below_dn HB0.out _⟩

theorem ends_any (n:Net) (ao:Option Addr) (cap:Nat) (r:Int) (w:World) (hr:ARow w ao n.l) (hl:n.l.length≤1000000) (h64:in64 r) :
  Calls Tryz.prog 49 #[encN n ao cap,.int .i64 r] w fun e w'=>e=.returned (.tuple #[.int .i64 (enF n.l r),.int .i64 (enT n.l r)])∧Below w.heap.size w w':=by
 have TR:=hid (fun w'=>tracks_any n ao cap w' hl)
 obtain ⟨nn,ns,nt,l⟩:=n
 simp only at hr hl TR ⊢
 have HB0:=hid ((Below.refl w.heap.size w).alloc (Nat.le_refl _) (.cells #[.int .i64 nn,.int .i64 ns,.int .i64 nt,.slice ao l.length cap] 27))
 have HN0:=hid (netBox_new w nn ns nt (.slice ao l.length cap))
 have HR:=hid (hr.kept HB0.out)
 clear hr
 by_cases c1:r<0
 ·have HE1:=hid (enF_out (l:=l) (.inl c1))
  have HE2:=hid (enT_out (l:=l) (.inl c1))
  generalize enF l r=x at *
  generalize enT l r=y at *
  have c1':decide (r<0)=true:=by simpa using c1
  go_enter Tryz.func49,Tryz.ntmps49
  go_wp2
  go_ret2
  exact ⟨ret2' HE1.out.symm HE2.out.symm,HB0.out⟩
 have c1':decide (r<0)=false:=by simpa using c1
 by_cases c2:2*(l.length:Int)≤r
 ·have HE1:=hid (enF_out (l:=l) (.inr c2))
  have HE2:=hid (enT_out (l:=l) (.inr c2))
  generalize enF l r=x at *
  generalize enT l r=y at *
  have c2':decide (2*(l.length:Int)≤r)=true:=by simpa using c2
  go_enter Tryz.func49,Tryz.ntmps49
  go_wp2_with fail
  refine (TR.out _).mono ?_
  rintro e w1 ⟨rfl,hb⟩
  have HB1:=hid (HB0.out.trans (hb.mono (by simp)))
  clear hb
  go_wp2
  go_ret2
  exact ⟨ret2' HE1.out.symm HE2.out.symm,HB1.out⟩
 obtain ⟨k,rfl⟩:∃ k:Nat,r=(k:Int):=⟨r.toNat,by omega⟩
 have hk2:k<2*l.length:=by omega
 have GB:=hid (fun w'=>goesBack_any k w' (by omega))
 rw [enF_in hk2,enT_in hk2]
 have c2':decide (2*(l.length:Int)≤(k:Int))=false:=by simpa using c2
 obtain ⟨q,hq⟩:∃ q,q=k / 2:=⟨_,rfl⟩
 have hql:q<l.length:=by omega
 have hqI:(q:Int)<(l.length:Int):=by omega
 have hq0:(0:Int)≤(q:Int):=by omega
 have htd:=tdiv2 hq
 obtain ⟨b,off,rfl,hbl,cc⟩:=arow_cell HR.out hql
 have HC:=hid cc
 clear cc
 have HE1:=hid (show k % 2=1→trF l k=(arcAt l q).to∧trT l k=(arcAt l q).fr from fun h=>by unfold trF trT;rw [if_pos h,if_pos h,hq];exact ⟨rfl,rfl⟩)
 have HE2:=hid (show ¬ k % 2=1→trF l k=(arcAt l q).fr∧trT l k=(arcAt l q).to from fun h=>by unfold trF trT;rw [if_neg h,if_neg h,hq];exact ⟨rfl,rfl⟩)
 generalize trF l k=X at *
 generalize trT l k=Y at *
 generalize arcAt l q=a at *
 obtain ⟨fr,tov,ca⟩:=a
 simp only at HC HE1 HE2
 by_cases c:k % 2=1
 ·have HE:=hid (HE1.out c)
  have hd:decide (k % 2=1)=true:=by simpa using c
  rw [hd] at GB
  clear hd c HE1 HE2 hq hk2 c1 c2
  go_enter Tryz.func49,Tryz.ntmps49
  go_wp2_with fail
  refine (TR.out _).mono ?_
  rintro e w1 ⟨rfl,hb⟩
  have HB1:=hid (HB0.out.trans (hb.mono (by simp)))
  obtain ⟨n0,n1,n2,n3⟩:=netBox_cells (netBox_below HN0.out hb (by simp))
  have c0:=(hb.cell (p:=⟨b,off+q*3,none⟩) hbl).trans HC.out.1
  have c1:=(hb.cell (p:=⟨b,off+q*3+1,none⟩) hbl).trans HC.out.2.1
  have c2:=(hb.cell (p:=⟨b,off+q*3+2,none⟩) hbl).trans HC.out.2.2
  have HB2:=hid (HB1.out.alloc HB1.out.size (.cells #[.int .i64 fr,.int .i64 tov,.int .i64 ca] 51))
  obtain ⟨g0,g1,g2⟩:=arc_new w1 rfl fr tov ca
  clear hb
  go_wp2_with fail
  generalize (w1.alloc (.cells #[.int .i64 fr,.int .i64 tov,.int .i64 ca] 51))=W2 at *
  clear n0 n1 n2 n3 c0 c1 c2
  refine (GB.out _).mono ?_
  rintro e w' ⟨rfl,rfl⟩
  go_wp2
  go_quiet (fail)
  go_wp2
  go_ret2
  exact ⟨ret2' HE.out.1.symm HE.out.2.symm,below_dn HB2.out _⟩
 ·have HE:=hid (HE2.out c)
  have hd:decide (k % 2=1)=false:=by simpa using c
  rw [hd] at GB
  clear hd c HE1 HE2 hq hk2 c1 c2
  go_enter Tryz.func49,Tryz.ntmps49
  go_wp2_with fail
  refine (TR.out _).mono ?_
  rintro e w1 ⟨rfl,hb⟩
  have HB1:=hid (HB0.out.trans (hb.mono (by simp)))
  obtain ⟨n0,n1,n2,n3⟩:=netBox_cells (netBox_below HN0.out hb (by simp))
  have c0:=(hb.cell (p:=⟨b,off+q*3,none⟩) hbl).trans HC.out.1
  have c1:=(hb.cell (p:=⟨b,off+q*3+1,none⟩) hbl).trans HC.out.2.1
  have c2:=(hb.cell (p:=⟨b,off+q*3+2,none⟩) hbl).trans HC.out.2.2
  have HB2:=hid (HB1.out.alloc HB1.out.size (.cells #[.int .i64 fr,.int .i64 tov,.int .i64 ca] 51))
  obtain ⟨g0,g1,g2⟩:=arc_new w1 rfl fr tov ca
  clear hb
  go_wp2_with fail
  generalize (w1.alloc (.cells #[.int .i64 fr,.int .i64 tov,.int .i64 ca] 51))=W2 at *
  clear n0 n1 n2 n3 c0 c1 c2
  refine (GB.out _).mono ?_
  rintro e w' ⟨rfl,rfl⟩
  go_wp2
  go_quiet (fail)
  go_wp2
  go_ret2
  exact ⟨ret2' HE.out.1.symm HE.out.2.symm,below_dn HB2.out _⟩

end Ne
namespace Ne
end Ne
namespace Ne
def roomV (n:Net) (f:List Int):List Int:=if chkF n f≠0 then [] else roomL n.l f (2*n.l.length)
theorem room_64 {n:Net} (hR:Right n) {f:List Int} (hw:wi n.l f) {r:Nat} (h:r<2*n.l.length):in64 (roomN n.l f r):=by
 have h1:=room_nn hw h
 have h2:=cap_topR hR (i:=r / 2) (by omega)
 unfold in64;omega
theorem droom_any (n:Net) (ao:Option Addr) (cap:Nat) (fo:Option Addr) (fc:Nat) (f:List Int) (w:World) (hr:ARow w ao n.l) (hf:IRow w fo f) (hl:n.l.length≤1000000) (hok:∀ a∈n.l,in64 a.cap) :
  Calls Tryz.prog 28 #[encN n ao cap,.slice fo f.length fc] w fun e w'=>∃ v,e=.returned (.tuple #[v,.int .i64 (chkF n f)])∧OwnL w' w.heap.size v (roomV n f)∧Below w.heap.size w w':=by
 have CK:=hid (fun w' (h1:ARow w' ao n.l) (h2:IRow w' fo f)=>fchk_any n ao cap fo fc f w' h1 h2 hl hok)
 by_cases c0:chkF n f=0
 case neg =>
  have HE:=hid (show roomV n f=[] by unfold roomV;rw [if_pos c0])
  generalize roomV n f=RV at *
  generalize chkF n f=c at *
  generalize f.length=fl at *
  obtain ⟨nn,ns,nt,l⟩:=n
  simp only at hr CK ⊢
  have HB0:=hid ((Below.refl w.heap.size w).alloc (Nat.le_refl _) (.cells #[.int .i64 nn,.int .i64 ns,.int .i64 nt,.slice ao l.length cap] 27))
  have c1':(c == 0)=false:=by simpa using c0
  have c1n:(c != 0)=true:=by simpa using c0
  have HR:=hid (hr.kept HB0.out)
  have HF:=hid (hf.kept HB0.out)
  clear hr hf c0
  go_enter Tryz.func28,Tryz.ntmps28
  go_wp2_with fail
  refine (CK.out _ HR.out HF.out).mono ?_
  rintro e w1 ⟨rfl,hb⟩
  have HB1:=hid (HB0.out.trans (hb.mono (by simp)))
  clear hb
  go_wp2
  go_ret2
  exact ⟨_,rfl,by rw [HE.out];exact Rw.own_nil _ _,HB1.out⟩
 have HRV:=hid (show roomV n f=roomL n.l f (2*n.l.length) by unfold roomV;rw [if_neg (by simpa using c0)])
 obtain ⟨-,RT,hfl,hwi⟩:=chkA_ok (chkF_ok c0).1
 rw [c0] at CK ⊢
 rw [hfl] at CK ⊢
 have HRM:=hid (fun (r:Nat) w' (h:r<2*n.l.length) h1 h2=>room_any n ao cap fo fc f r w' h1 h2 hl hfl h (room_64 RT hwi h))
 have HTR:=hid (fun w'=>tracks_any n ao cap w' hl)
 have HRS:=hid (fun k=>roomL_succ n.l f k)
 have HRN:=hid (fun k=>roomL_len n.l f k)
 have HR0:=hid (show roomL n.l f 0=[] from rfl)
 have HEV:=hid (fun i=>room_even n.l f i)
 have HOD:=hid (fun i=>room_odd n.l f i)
 have HR64:=hid (fun (r:Nat) (h:r<2*n.l.length)=>room_64 RT hwi h)
 have HFL:=hid hfl
 have hLL:=RT.len
 generalize roomV n f=RV at *
 generalize roomL n.l f=RL at *
 generalize roomN n.l f=RO at *
 clear c0 RT hwi hfl
 obtain ⟨nn,ns,nt,l⟩:=n
 simp only at hr hl CK HRM HTR HRV HEV HFL hLL HR64 ⊢
 have HB0:=hid ((Below.refl w.heap.size w).alloc (Nat.le_refl _) (.cells #[.int .i64 nn,.int .i64 ns,.int .i64 nt,.slice ao l.length cap] 27))
 have HN0:=hid (netBox_new w nn ns nt (.slice ao l.length cap))
 have HR:=hid (hr.kept HB0.out)
 have HF:=hid (hf.kept HB0.out)
 clear hr hf
 go_enter Tryz.func28,Tryz.ntmps28
 go_wp2_with fail
 refine (CK.out _ HR.out HF.out).mono ?_
 rintro e w1 ⟨rfl,hb⟩
 have HB1:=hid (HB0.out.trans (hb.mono (by simp)))
 have HN1:=hid (netBox_below HN0.out hb (by simp))
 have HR1:=hid (HR.out.kept hb)
 have HF1:=hid (HF.out.kept hb)
 obtain ⟨n0,n1,n2,n3⟩:=netBox_cells HN1.out
 clear hb
 go_wp2_with fail
 refine (HTR.out _).mono ?_
 rintro e WX ⟨rfl,hb⟩
 have HBX:=hid (HB1.out.trans (hb.mono HB1.out.size))
 have HNX:=hid (netBox_below HN1.out hb (netBox_lt HN1.out))
 have HRX:=hid (HR1.out.kept hb)
 have HFX:=hid (HF1.out.kept hb)
 clear hb n0 n1 n2 n3 HB0 HB1 HN0 HN1 HR HR1 HF HF1 CK HTR
 go_wp2
 go_loopw [7,17] (fun s i wr=>∃ (v:Value) (j:Nat),v=s∧i=.int .i64 j∧j≤2*l.length∧Hid (OwnL wr WX.heap.size v (RL j))∧Hid (Below WX.heap.size WX wr)) (fun _ i _=>2*l.length-(intOf i).toNat)
 case atStart=>exact ⟨_,0,rfl,rfl,Nat.zero_le _,hid (by rw [HR0.out];exact Rw.own_nil _ _),hid (Below.refl _ _)⟩
 case round =>
  obtain ⟨v,j,rfl,rfl,hj,HOW,HBW⟩:=hrel
  by_cases hlt:j<2*l.length
  ·obtain ⟨n0,n1,n2,n3⟩:=netBox_cells (netBox_below HNX.out HBW.out (netBox_lt HNX.out))
   have hji:(j:Int)<2*(l.length:Int):=by omega
   have hj0:(0:Int)≤(j:Int):=by omega
   have RM:=hid (fun w'=>HRM.out j w' hlt)
   have HST:=hid (HRS.out j)
   have HLN:=hid (show (RL j).length+([RO j]:List Int).length≤1099511627776 by rw [HRN.out];simp;omega)
   generalize RO j=x at *
   go_wp2_with fail
   refine (RM.out _ (HRX.out.kept HBW.out) (HFX.out.kept HBW.out)).mono ?_
   rintro e w2 ⟨rfl,hb⟩
   have HB2:=hid (HBW.out.trans (hb.mono HBW.out.size))
   have HO3:=hid (Rw.own_alloc (Rw.own_below HOW.out hb) (.cells #[.int .i64 x] 2))
   have HR3:=hid (irow_one' w2 rfl x 2)
   have hvb:=Rw.own_block HOW.out
   have HB3:=hid (HB2.out.alloc HB2.out.size (.cells #[.int .i64 x] 2))
   have HZ3:=hid HB3.out.size
   clear hb
   go_wp2_with (at_builtin;refine Rw.app elemL encI_len encI_one rfl (.tmp 20) (.tmp 25) rfl WX.heap.size _ (RL j) rfl HO3.out (some ⟨w2.heap.size,0,none⟩) 1 [x] rfl ?hnn HR3.out HLN.out ?hB ?_;(case hnn=>(intro h;cases h));(case hB=>(exact HZ3.out));intro v4 w4 hown4 hgr4;rw [← HST.out] at hown4;have HB4:=hid (HB3.out.grown hgr4 HZ3.out hvb);have HO4:=hid hown4;clear hown4 hgr4)
   go_roundw
   case rel=>exact ⟨_,j+1,rfl,by go_num,by omega,HO4,HB4⟩
   case measure=>simp [intOf];omega
  ·have ej:j=2*l.length:=by omega
   subst ej
   have HBE:=hid (HBX.out.trans (HBW.out.mono HBX.out.size))
   have HOE:=hid (Rw.own_base HOW.out (B':=w.heap.size) HBX.out.size)
   clear hlt hj
   go_wp2
   go_ret2
   exact ⟨_,rfl,by rw [HRV.out];exact HOE.out,HBE.out⟩
end Ne
end Go.Proofs.YthhlfphnokdfaaaGreat
