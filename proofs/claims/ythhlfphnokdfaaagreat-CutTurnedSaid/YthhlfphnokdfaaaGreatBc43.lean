/-
  Openc, Copy, Dturn, Oth
-/
import Derived.Test.YthhlfphnokdfaaaGreatBc42
import Derived.Test.YthhlfphnokdfaaaGreatBc3
import Derived.Lib.SliceRun
import Derived.Outline
import Derived.RegionTactic
import Derived.BigRegion
import Derived.Test.YthhlfphnokdfaaaGreatBc14
set_option linter.unusedVariables false
set_option linter.unusedSimpArgs false
set_option maxRecDepth 100000
set_option maxHeartbeats 4000000
namespace Go.Proofs.YthhlfphnokdfaaaGreat
open Go.Joins Go.ChangeShapes Go.WideShapes Go.RowKit Go.Deep
namespace Ne
section
variable {H:Type} {enc:TypeId × Value→H} {w:World} {base b0:Nat} {r:Reach} {spare:Nat→Bool} {held:Bool}
theorem open_cells {v:Value} {d:DataW H} {p:List MemPlace} (hv:Value.okWide Tryz.prog w r b0 22 v) (h:DataW.Trod enc Tryz.prog w base spare held 22 v d p) :
  ∃ (l:List Arc) (ao:Option Addr) (cap:Nat),v=.slice ao l.length cap∧(∀ a∈l,a.ok)∧l.length≤cap∧cap≤maxLen∧(ao=none→cap=0)∧ARow w ao l:=by
 obtain ⟨ao,len,cap,rfl⟩:=okWide_slice Tryz.underlying22 hv
 obtain ⟨fuel,hf⟩:=h
 obtain ⟨ao',cap',l,e,hl,hm,hn,hr,hk⟩:=open_row3 Tryz.underlying22 Tryz.underlying55 (by kernel_rfl) (by kernel_rfl) Tryz.underlying3 Tryz.underlying3 Tryz.underlying3 hf
 simp [Value.cells] at e
 obtain ⟨rfl,rfl,rfl⟩:=e
 exact ⟨l,ao,cap,rfl,hk,hl,hm,hn,hr⟩
end
end Ne
end Go.Proofs.YthhlfphnokdfaaaGreat
namespace Go.Proofs.YthhlfphnokdfaaaGreat
open Go.ChangeShapes Go.WideShapes Go.ChangeAt Go.RowKit
open Lib (hid)
namespace Ne
theorem cloneV (l:List Arc) (ao:Option Addr) (cap:Nat) (w:World) (hn:ao=none→cap=0) (hr:ARow w ao l) (hl:l.length≤1000000) :
  Calls Tryz.prog 45 #[.slice ao l.length cap] w fun e w'=>∃ x,e=.returned x∧OwnA w' w.heap.size x l∧Below w.heap.size w w':=by
 have q:∀ (w:World) (a:Option Addr) (n c n' c':Nat),(binOp .eql 25 (.slice a n c) (.slice none n' c')).run Tryz.prog w=.ok (.bool a.isNone) w:=fun w a n c n' c'=>Lib.run_eql_slice_nil w _ _ a n c n' c' Tryz.underlying25
 rcases ao with _ | ad
 ·obtain rfl:=hn rfl
  have hl0:l=[]:=by
   rcases hr with h | ⟨b,off,h,_⟩
   ·exact h
   ·cases h
  subst hl0
  go_enter Tryz.func45,Tryz.ntmps45
  go_wp2
  go_ret
  exact ⟨_,rfl,Rw.own_nil _ _,Below.refl _ _⟩
 ·have HR:=hid (hr.kept ((Below.refl _ _).alloc (Nat.le_refl _) (.cells #[] 51)))
  have HL:=hid (show ([]:List Arc).length+l.length≤1099511627776 by simp;omega)
  clear hr hn hl
  go_enter Tryz.func45,Tryz.ntmps45
  go_wp2_with (at_builtin;refine Rw.app elemA encA_len encA_one rfl (.tmp 5) (.tmp 6) rfl w.heap.size _ ([]:List Arc) rfl (own_empty w _ (Nat.le_refl _)) (some ad) cap l rfl ?hnn HR.out HL.out ?hB ?_;(case hnn=>(intro h;cases h));(case hB=>(simp));intro v2 w2 hown2 hgr2;have HO2:=hid hown2;have HB2:=hid (((Below.refl w.heap.size w).alloc (Nat.le_refl _) (.cells #[] 51)).grown hgr2 (by simp) (Rw.own_block (own_empty (α:=Arc) (k:=3) (enc:=encA) (e:=51) w w.heap.size (Nat.le_refl _))));clear hown2 hgr2)
  go_ret
  exact ⟨_,rfl,by have h:=HO2.out;rw [List.nil_append] at h;exact h,HB2.out⟩

theorem clone_any (l:List Arc) (ao:Option Addr) (cap:Nat) (w:World) (hn:ao=none→cap=0) (hr:ARow w ao l) (hl:l.length≤1000000) :
  Calls Tryz.prog 45 #[.slice ao l.length cap] w fun e w'=>∃ ao' cap',e=.returned (.slice ao' l.length cap')∧OwnA w' w.heap.size (.slice ao' l.length cap') l∧Below w.heap.size w w':=by
 refine (cloneV l ao cap w hn hr hl).mono ?_
 rintro e w' ⟨x,rfl,ho,hb⟩
 obtain ⟨ao2,cap2,hx,_⟩:=Rw.own_row encA_len ho
 subst hx
 exact ⟨ao2,cap2,rfl,ho,hb⟩

theorem copy_any (n:Net) (ao:Option Addr) (cap:Nat) (w:World) (hn:ao=none→cap=0) (hr:ARow w ao n.l) (hl:n.l.length≤1000000) :
  Calls Tryz.prog 33 #[encN n ao cap] w fun e w'=>∃ ao' cap',e=.returned (encN n ao' cap')∧OwnA w' w.heap.size (.slice ao' n.l.length cap') n.l∧Below w.heap.size w w':=by
 obtain ⟨nn,ns,nt,l⟩:=n
 simp only at hr hl ⊢
 have HB:=hid (((Below.refl w.heap.size w).alloc (by simp) (.cells #[.int .i64 nn,.int .i64 ns,.int .i64 nt,.slice ao l.length cap] 27)).alloc (by simp) (.cells #[.int .i64 0,.int .i64 0,.int .i64 0,.slice none 0 0] 27))
 have HC:=hid (clone_any l ao cap _ hn (hr.kept HB.out) hl)
 have HX:=hid (netBox_alloc (netBox_new w nn ns nt (.slice ao l.length cap)) (.cells #[.int .i64 0,.int .i64 0,.int .i64 0,.slice none 0 0] 27))
 have HY:=hid (netBox_at (w.alloc (.cells #[.int .i64 nn,.int .i64 ns,.int .i64 nt,.slice ao l.length cap] 27)) (b:=w.heap.size+1) (by simp) 0 0 0 (.slice none 0 0))
 clear hr hn
 go_enter Tryz.func33,Tryz.ntmps33
 go_wp2_with fail
 refine HC.out.mono ?_
 rintro e w1 ⟨a2,k2,rfl,ho,hb⟩
 have X1:=netBox_below HX.out hb (by simp;omega)
 have Y1:=netBox_below HY.out hb (by simp)
 have HB1:=hid (HB.out.trans (hb.mono (by simp;omega)))
 have HO:=hid (Rw.own_base ho (B':=w.heap.size+2) (by simp))
 have hvb:=Rw.own_block HO.out
 obtain ⟨n0,n1,n2,n3⟩:=netBox_cells X1
 have nf:=netBox_frozen X1 3
 obtain ⟨r0,r1,r2,r3⟩:=netBox_cells Y1
 have f0:=netBox_frozen Y1 0
 have f1:=netBox_frozen Y1 1
 have f2:=netBox_frozen Y1 2
 have f3:=netBox_frozen Y1 3
 have HO2:=hid (Rw.own_set (Rw.own_set (Rw.own_set (Rw.own_set (Rw.own_set HO.out (p:=⟨w.heap.size,3,none⟩) (fun h=>by have h2:=hvb _ h;simp only at h2;omega) (.slice a2 l.length k2))
  (p:=⟨w.heap.size+1,0,none⟩) (fun h=>by have h2:=hvb _ h;simp only at h2;omega) (.int .i64 nn)) (p:=⟨w.heap.size+1,1,none⟩) (fun h=>by have h2:=hvb _ h;simp only at h2;omega) (.int .i64 ns)) (p:=⟨w.heap.size+1,2,none⟩) (fun h=>by have h2:=hvb _ h;simp only at h2;omega) (.int .i64 nt)) (p:=⟨w.heap.size+1,3,none⟩) (fun h=>by have h2:=hvb _ h;simp only at h2;omega) (.slice a2 l.length k2))
 have HW:=hid (netBox_all (n2:=nn) (s2:=ns) (t2:=nt) (v2:=.slice a2 l.length k2) (netBox_other Y1 (b2:=w.heap.size) (o:=3) (v2:=.slice a2 l.length k2) (by omega)))
 have HB2:=hid (((((HB1.out.setCell (p:=⟨w.heap.size,3,none⟩) (by simp) (.slice a2 l.length k2)).setCell (p:=⟨w.heap.size+1,0,none⟩) (by simp) (.int .i64 nn)).setCell (p:=⟨w.heap.size+1,1,none⟩) (by simp) (.int .i64 ns)).setCell (p:=⟨w.heap.size+1,2,none⟩) (by simp) (.int .i64 nt)).setCell (p:=⟨w.heap.size+1,3,none⟩) (by simp) (.slice a2 l.length k2))
 clear X1 Y1 ho hb hvb
 go_wp2
 refine bodyPost_ret_by (results_cell_row rfl _ _ (w.heap.size+1) 27 _ (0,0) _ rfl HW.out Tryz.underlying27 rfl (by kernel_rfl)) rfl ?_
 exact ⟨a2,k2,rfl,Rw.own_base HO2.out (by omega),HB2.out⟩
end Ne
namespace Ne
theorem turned_step {l:List Arc} {k:Nat} {a:Arc} (h:l[k]? = some a):(((l.take k).map turnA ++ l.drop k).set k ⟨a.to,a.to,a.cap⟩).set k (turnA a)=(l.take (k+1)).map turnA ++ l.drop (k+1):=by
 obtain ⟨hk,he⟩:=List.getElem?_eq_some_iff.1 h
 have hlen:((l.take k).map turnA).length=k:=by simp;omega
 rw [List.set_set,List.set_append,if_neg (by omega),hlen,Nat.sub_self,List.drop_eq_getElem_cons hk,List.set_cons_zero,List.take_succ_eq_append_getElem hk,List.map_append,he]
 simp
theorem turned_at {l:List Arc} {k:Nat} {a:Arc} (h:l[k]? = some a):((l.take k).map turnA ++ l.drop k)[k]? = some a:=by
 obtain ⟨hk,he⟩:=List.getElem?_eq_some_iff.1 h
 rw [List.getElem?_append_right (by simp;omega)]
 simp [Nat.min_eq_left (Nat.le_of_lt hk),h]
theorem turn_any (n:Net) (ao:Option Addr) (cap:Nat) (w:World) (hn:ao=none→cap=0) (hr:ARow w ao n.l) (hl:n.l.length≤1000000) :
  Calls Tryz.prog 18 #[encN n ao cap] w fun e w'=>∃ ao' cap',e=.returned (encN (turnN n) ao' cap')∧OwnA w' w.heap.size (.slice ao' (turnN n).l.length cap') (turnN n).l∧Below w.heap.size w w':=by
 have HC:=hid (fun w' h=>copy_any n ao cap w' hn h hl)
 obtain ⟨nn,ns,nt,l⟩:=n
 simp only at hr hl HC ⊢
 have HB:=hid (((Below.refl w.heap.size w).alloc (by simp) (.cells #[.int .i64 nn,.int .i64 ns,.int .i64 nt,.slice ao l.length cap] 27)).alloc (by simp) (.cells #[.int .i64 0,.int .i64 0,.int .i64 0,.slice none 0 0] 27))
 have HX:=hid (netBox_alloc (netBox_new w nn ns nt (.slice ao l.length cap)) (.cells #[.int .i64 0,.int .i64 0,.int .i64 0,.slice none 0 0] 27))
 have HY:=hid (netBox_at (w.alloc (.cells #[.int .i64 nn,.int .i64 ns,.int .i64 nt,.slice ao l.length cap] 27)) (b:=w.heap.size+1) (by simp) 0 0 0 (.slice none 0 0))
 have HR:=hid (hr.kept HB.out)
 clear hr hn
 go_enter Tryz.func18,Tryz.ntmps18
 go_wp2_with fail
 refine (HC.out _ HR.out).mono ?_
 rintro e w1 ⟨a2,k2,rfl,ho,hb⟩
 have X1:=netBox_below HX.out hb (by simp;omega)
 have Y1:=netBox_below HY.out hb (by simp)
 have HB1:=hid (HB.out.trans (hb.mono (by simp;omega)))
 have hz1:w.heap.size+2≤w1.heap.size:=by have:=hb.size;simpa using this
 have HO:=hid (Rw.own_base ho (B':=w.heap.size+2) (by simp))
 have X2:=netBox_alloc X1 (.cells #[.int .i64 nn,.int .i64 ns,.int .i64 nt,.slice a2 l.length k2] 27)
 have Y2:=netBox_alloc Y1 (.cells #[.int .i64 nn,.int .i64 ns,.int .i64 nt,.slice a2 l.length k2] 27)
 have T2:=netBox_new w1 nn ns nt (.slice a2 l.length k2)
 have O2:=Rw.own_alloc HO.out (.cells #[.int .i64 nn,.int .i64 ns,.int .i64 nt,.slice a2 l.length k2] 27)
 have B2:=HB1.out.alloc (by omega) (.cells #[.int .i64 nn,.int .i64 ns,.int .i64 nt,.slice a2 l.length k2] 27)
 have Z2:(w1.alloc (.cells #[.int .i64 nn,.int .i64 ns,.int .i64 nt,.slice a2 l.length k2] 27)).heap.size=w1.heap.size+1:=by simp
 have hg1:∀ g,(Value.slice a2 l.length k2).ownBlock=some g→g<w1.heap.size:=by
  intro g hg
  obtain ⟨ao',cap',hv,_,_,_,_,hb2,ha2⟩:=Rw.own_row encA_len ho
  simp only [Value.slice.injEq] at hv
  obtain ⟨rfl,_,rfl⟩:=hv
  rcases a2 with _ | a
  ·simp [Value.ownBlock] at hg
  ·obtain ⟨b,rfl⟩:=ha2 _ rfl
   simp [Value.ownBlock] at hg
   have:=(hb2 b 0 rfl).2
   omega
 clear ho hb X1 Y1
 go_wp2
 generalize (w1.alloc (.cells #[.int .i64 nn,.int .i64 ns,.int .i64 nt,.slice a2 l.length k2] 27))=W2 at *
 obtain ⟨x0,x1,x2,x3⟩:=netBox_cells X2
 have tf1:=netBox_frozen T2 1
 have tf2:=netBox_frozen T2 2
 have htb:w1.heap.size≠w.heap.size:=by omega
 obtain ⟨t0,t1,t2,t3⟩:=netBox_cells T2
 go_region
 have T3:=netBox_set2' (t2:=ns) (netBox_set1 (s2:=nt) T2)
 have Y3:=netBox_other (netBox_other Y2 (b2:=w1.heap.size) (o:=1) (v2:=.int .i64 nt) (by omega)) (b2:=w1.heap.size) (o:=2) (v2:=.int .i64 ns) (by omega)
 have O3:=Rw.own_set (Rw.own_set O2 (p:=⟨w1.heap.size,1,none⟩) (fun h=>by have:=hg1 _ h;simp only at this;omega) (.int .i64 nt)) (p:=⟨w1.heap.size,2,none⟩) (fun h=>by have:=hg1 _ h;simp only at this;omega) (.int .i64 ns)
 have B3:=(B2.setCell (p:=⟨w1.heap.size,1,none⟩) (by simp;omega) (.int .i64 nt)).setCell (p:=⟨w1.heap.size,2,none⟩) (by simp;omega) (.int .i64 ns)
 have Z3:((W2.setCell ⟨w1.heap.size,1,none⟩ (.int .i64 nt)).setCell ⟨w1.heap.size,2,none⟩ (.int .i64 ns)).heap.size=w1.heap.size+1:=by simp [World.setCell];omega
 clear T2 Y2 O2 B2 Z2 X2 x0 x1 x2 x3 tf1 tf2 t0 t1 t2 t3
 generalize ((W2.setCell ⟨w1.heap.size,1,none⟩ (.int .i64 nt)).setCell ⟨w1.heap.size,2,none⟩ (.int .i64 ns))=W3 at *
 obtain ⟨t0,t1,t2,t3⟩:=netBox_cells T3
 have HG:=hid hg1
 clear hg1 HX HY HR HC HB HO HB1
 go_wp2
 clear t0 t1 t2 t3
 go_loopw [17] (fun i wr=>∃ k:Nat,i=.int .i64 k∧k≤l.length∧NetBox wr w1.heap.size nn nt ns (.slice a2 l.length k2)∧NetBox wr (w.heap.size+1) 0 0 0 (.slice none 0 0)∧OwnA wr (w.heap.size+2) (.slice a2 l.length k2) ((l.take k).map turnA ++ l.drop k)∧Below w.heap.size w wr) (fun i _=>l.length-(intOf i).toNat)
 case atStart=>exact ⟨0,rfl,Nat.zero_le _,T3,Y3,O3,below_drew B3⟩
 case round =>
  obtain ⟨k,rfl,hk,hbx,hres,hown,hbel⟩:=hrel
  obtain ⟨t0,t1,t2,t3⟩:=netBox_cells hbx
  by_cases hlt:k<l.length
  ·obtain ⟨a,ha⟩:∃ a,l[k]? = some a:=⟨_,List.getElem?_eq_getElem hlt⟩
   obtain ⟨g,rfl,hgB,hgs,hcell,hfz⟩:=own_cells encA_len hown (turned_at ha)
   have c0:=hcell 0 _ rfl
   have c1:=hcell 1 _ rfl
   rw [Nat.add_zero] at c0
   have z0:=hfz (k*3)
   have z1:=hfz (k*3+1)
   have hgt:g≠w1.heap.size:=by have:=HG.out g rfl;omega
   have HO2:=hid (own_put encA_len (own_put encA_len hown (turned_at ha) (y:=⟨a.to,a.to,a.cap⟩) (j:=0) (by omega) (u:=.int .i64 a.to) rfl) (i:=k) (x:=⟨a.to,a.to,a.cap⟩) (y:=turnA a) (by rw [List.getElem?_set_self (by simp;omega)]) (j:=1) (by omega) (u:=.int .i64 a.fr) rfl)
   rw [turned_step ha,Nat.add_zero] at HO2
   have HX2:=hid (netBox_other (netBox_other hbx (b2:=g) (o:=k*3) (v2:=.int .i64 a.to) (by omega)) (b2:=g) (o:=k*3+1) (v2:=.int .i64 a.fr) (by omega))
   have HR2:=hid (netBox_other (netBox_other hres (b2:=g) (o:=k*3) (v2:=.int .i64 a.to) (by omega)) (b2:=g) (o:=k*3+1) (v2:=.int .i64 a.fr) (by omega))
   have HB2:=hid ((hbel.setCell (p:=⟨g,k*3,none⟩) (by simp;omega) (.int .i64 a.to)).setCell (p:=⟨g,k*3+1,none⟩) (by simp;omega) (.int .i64 a.fr))
   clear hown hbx hres hbel hcell hfz ha
   clear T3 Y3 O3 B3
   go_wp2
   go_region
   go_wp2
   go_roundw
   case rel=>exact ⟨k+1,by go_num,by omega,HX2.out,HR2.out,HO2.out,below_drew HB2.out⟩
   case measure=>simp [intOf];omega
  ·have ek:k=l.length:=by omega
   subst ek
   rw [List.take_length,List.drop_length,List.append_nil] at hown
   have hvb:=Rw.own_block hown
   obtain ⟨r0,r1,r2,r3⟩:=netBox_cells hres
   have f0:=netBox_frozen hres 0
   have f1:=netBox_frozen hres 1
   have f2:=netBox_frozen hres 2
   have f3:=netBox_frozen hres 3
   have HO2:=hid (Rw.own_set (Rw.own_set (Rw.own_set (Rw.own_set hown
    (p:=⟨w.heap.size+1,0,none⟩) (fun h=>by have h2:=hvb _ h;simp only at h2;omega) (.int .i64 nn)) (p:=⟨w.heap.size+1,1,none⟩) (fun h=>by have h2:=hvb _ h;simp only at h2;omega) (.int .i64 nt)) (p:=⟨w.heap.size+1,2,none⟩) (fun h=>by have h2:=hvb _ h;simp only at h2;omega) (.int .i64 ns)) (p:=⟨w.heap.size+1,3,none⟩) (fun h=>by have h2:=hvb _ h;simp only at h2;omega) (.slice a2 l.length k2))
   have HW:=hid (netBox_all (n2:=nn) (s2:=nt) (t2:=ns) (v2:=.slice a2 l.length k2) hres)
   have HB2:=hid ((((hbel.setCell (p:=⟨w.heap.size+1,0,none⟩) (by simp) (.int .i64 nn)).setCell (p:=⟨w.heap.size+1,1,none⟩) (by simp) (.int .i64 nt)).setCell (p:=⟨w.heap.size+1,2,none⟩) (by simp) (.int .i64 ns)).setCell (p:=⟨w.heap.size+1,3,none⟩) (by simp) (.slice a2 l.length k2))
   clear hown hbx hres hbel hvb T3 Y3 O3 B3
   go_wp2
   refine bodyPost_ret_by (results_cell_row rfl _ _ (w.heap.size+1) 27 _ (0,0) _ rfl HW.out Tryz.underlying27 rfl (by kernel_rfl)) rfl ?_
   exact ⟨a2,k2,by simp [encN,turnN],by have h:=Rw.own_base HO2.out (B':=w.heap.size) (by omega);simpa [turnN] using h,HB2.out⟩
end Ne
namespace Ne
theorem others_any (n:Net) (ao:Option Addr) (cap:Nat) (lo:Option Addr) (lc:Nat) (Q:List Int) (w:World) (h0:0≤n.n) (h1:n.n≤1000000) (hq:IRow w lo Q) (hl:Q.length≤1000000) :
  Calls Tryz.prog 19 #[encN n ao cap,.slice lo Q.length lc] w fun e w'=>∃ o c,e=.returned (.slice o (nodesTo (fun v=>!(hasL Q (v:Int))) n.n.toNat).length c)∧OwnI w' w.heap.size (.slice o (nodesTo (fun v=>!(hasL Q (v:Int))) n.n.toNat).length c) (nodesTo (fun v=>!(hasL Q (v:Int))) n.n.toNat)∧Below w.heap.size w w':=by
 have HH:=hid (fun v w' h=>rhas_any lo lc Q v w' h hl)
 obtain ⟨nn,ns,nt,l⟩:=n
 simp only at h0 h1 ⊢
 obtain ⟨N,rfl⟩:∃ N:Nat,nn=(N:Int):=⟨nn.toNat,by omega⟩
 simp only [Int.toNat_natCast]
 obtain ⟨p,hp⟩:∃ p:Nat→Bool,p=fun v:Nat=>!(hasL Q (v:Int)):=⟨_,rfl⟩
 have HP:=hid (show ∀ v,p v = !(hasL Q (v:Int)) from fun v=>by rw [hp])
 rw [← hp]
 clear hp
 have HN0:=hid (netBox_new w (N:Int) ns nt (.slice ao l.length cap))
 have HB0:=hid ((Below.refl w.heap.size w).alloc (Nat.le_refl _) (.cells #[.int .i64 (N:Int),.int .i64 ns,.int .i64 nt,.slice ao l.length cap] 27))
 have HQ:=hid (hq.kept HB0.out)
 clear hq
 obtain ⟨m0,m1,m2,m3⟩:=netBox_cells HN0.out
 go_enter Tryz.func19,Tryz.ntmps19
 go_wp2
 clear m0 m1 m2 m3
 generalize hW1:(w.alloc (.cells #[.int .i64 (N:Int),.int .i64 ns,.int .i64 nt,.slice ao l.length cap] 27))=W1 at *
 clear hW1
 have HQ0:=hid (show nodesTo p 0=[] from rfl)
 have HQS:=hid (show ∀ k,nodesTo p (k+1)=nodesTo p k ++ if p (k+1) then [((k+1:Nat):Int)] else [] from fun _=>rfl)
 go_loopw [5,6] (fun y i wr=>∃ k:Nat,i=.int .i64 ((k+1:Nat):Int)∧k≤N∧Hid (OwnI wr W1.heap.size y (nodesTo p k))∧Hid (Below W1.heap.size W1 wr)) (fun _ i _=>N+1-(intOf i).toNat)
 case atStart=>exact ⟨0,rfl,Nat.zero_le _,hid (by rw [HQ0.out];exact Rw.own_nil _ _),hid (Below.refl _ _)⟩
 case round =>
  obtain ⟨k,rfl,hk,HO,HBV⟩:=hrel
  obtain ⟨n0,n1,n2,n3⟩:=netBox_cells (netBox_below HN0.out HBV.out (netBox_lt HN0.out))
  by_cases hlt:k<N
  ·obtain ⟨J,hJ⟩:∃ J,J=k+1:=⟨_,rfl⟩
   have HSJ:=hid (HQS.out k)
   rw [← hJ] at HSJ ⊢
   have HJ:=hid hJ
   have hJN:J≤N:=by omega
   have hJ1:1≤J:=by omega
   have hJi:(J:Int)≤(N:Int):=by omega
   have HHJ:=hid (HH.out (J:Int) _ (HQ.out.kept HBV.out))
   have HPJ:=hid (HP.out J)
   clear hJ
   cases hv:hasL Q (J:Int)
   ·rw [hv] at HHJ HPJ
    have HS:=hid (show nodesTo p J=nodesTo p k ++ [(J:Int)] by rw [HSJ.out,HPJ.out];rfl)
    have HO7:=hid (Rw.own_alloc HO.out (.cells #[.int .i64 (J:Int)] 3))
    have HV7:=hid (HBV.out.alloc HBV.out.size (.cells #[.int .i64 (J:Int)] 3))
    have HR7:=hid (irow_one' wr rfl (J:Int) 3)
    have HLN:=hid (show (nodesTo p k).length + [(J:Int)].length≤1099511627776 by have:=nodes_len p k;simp;omega)
    have HVB:=hid (Rw.own_block HO7.out)
    clear hv HSJ
    go_wp2_with fail
    refine HHJ.out.mono ?_
    rintro e w6 ⟨rfl,rfl⟩
    go_wp2_with (at_builtin;refine Rw.app elemI encI_len encI_one rfl (.tmp 17) (.tmp 19) rfl W1.heap.size _ (nodesTo p k) rfl HO7.out (some ⟨wr.heap.size,0,none⟩) 1 [(J:Int)] rfl ?hnn HR7.out HLN.out ?hB ?_;(case hnn=>(intro h;cases h));(case hB=>(exact HV7.out.size));intro v8 w8 hown8 hgr8;rw [← HS.out] at hown8;have HO8:=hid hown8;have HV8:=hid (HV7.out.grown hgr8 HV7.out.size HVB.out);clear hown8 hgr8)
    go_roundw
    case rel=>exact ⟨J,by go_num,hJN,HO8,HV8⟩
    case measure=>have:=HJ.out;simp [intOf];omega
   ·rw [hv] at HHJ HPJ
    have HS:=hid (show nodesTo p J=nodesTo p k by rw [HSJ.out,HPJ.out];simp)
    clear hv HSJ
    go_wp2_with fail
    refine HHJ.out.mono ?_
    rintro e w6 ⟨rfl,rfl⟩
    go_wp2
    go_roundw
    case rel=>exact ⟨J,by go_num,hJN,hid (by rw [HS.out];exact HO.out),HBV⟩
    case measure=>have:=HJ.out;simp [intOf];omega
  ·have ek:N=k:=by omega
   subst ek
   obtain ⟨o,c,hy,-⟩:=Rw.own_row encI_len HO.out
   subst hy
   clear HQ0 HQS hlt hk
   go_wp2
   go_ret
   exact ⟨o,c,rfl,Rw.own_base HO.out HB0.out.size,HB0.out.trans (HBV.out.mono HB0.out.size)⟩
end Ne
end Go.Proofs.YthhlfphnokdfaaaGreat
