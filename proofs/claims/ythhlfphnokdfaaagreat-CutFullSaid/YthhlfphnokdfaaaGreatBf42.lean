/-
  Openc
-/
import Derived.Test.YthhlfphnokdfaaaGreatBf41
set_option linter.unusedVariables false
set_option linter.unusedSimpArgs false
set_option maxRecDepth 100000
set_option maxHeartbeats 4000000
namespace Go.Proofs.YthhlfphnokdfaaaGreat
open Go.Joins Go.ChangeShapes Go.WideShapes Go.RowKit Go.Deep
namespace Ne
section
variable {H:Type} {enc:TypeId × Value→H} {w:World} {base b0:Nat} {r:Reach} {spare:Nat→Bool} {held:Bool}
theorem open_cells {v:Value} {d:DataW H} {p:List MemPlace} (hv:Value.okWide Tryz.prog w r b0 22 v) (h:DataW.Trod enc Tryz.prog w base spare held 22 v d p) :
  ∃ (l:List Arc) (ao:Option Addr) (cap:Nat),v=.slice ao l.length cap∧(∀ a∈l,a.ok)∧l.length≤cap∧cap≤maxLen∧(ao=none→cap=0)∧ARow w ao l:=by
 obtain ⟨ao,len,cap,rfl⟩:=okWide_slice Tryz.underlying22 hv
 obtain ⟨fuel,hf⟩:=h
 obtain ⟨ao',cap',l,e,hl,hm,hn,hr,hk⟩:=open_row3 Tryz.underlying22 Tryz.underlying55 (by kernel_rfl) (by kernel_rfl) Tryz.underlying3 Tryz.underlying3 Tryz.underlying3 hf
 simp [Value.cells] at e
 obtain ⟨rfl,rfl,rfl⟩:=e
 exact ⟨l,ao,cap,rfl,hk,hl,hm,hn,hr⟩
end
end Ne
end Go.Proofs.YthhlfphnokdfaaaGreat
