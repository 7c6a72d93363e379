import Derived.Test.YtdbhahiieokplaaGreatDoorRows
import Derived.Test.YtdbhahiieokplaaGreatDoorGKtD
import Derived.ProofKit
import Derived.OpenShut
import Derived.ShutString
import Derived.ChangeOld
import Derived.Lib.SmallJoins
import Derived.Lib.LaidTab
import Derived.LaidMore
import Derived.Stop.Joined
import Derived.Stop.LaidErr
set_option linter.unusedSimpArgs false
set_option linter.unusedVariables false

namespace Go.Proofs.YtdbhahiieokplaaGreatDoor
open Go.ChangeShapes Go.WideShapes Go.ChangeAt Go.RowKit Go.Joins

theorem rCellsInt:Tryz.prog.cellsOf 23=2:=by kernel_rfl
theorem rCellsRat:Tryz.prog.cellsOf 25=4:=by kernel_rfl
theorem rCellsBool:Tryz.prog.cellsOf 4=1:=by kernel_rfl
theorem rCellsStr:Tryz.prog.cellsOf 9=1:=by kernel_rfl
section
variable {H:Type} {enc:TypeId×Value→H} {W:World} {base:Nat} {sp:Nat→Bool} {held:Bool}
end

theorem rTab:Tryz.prog.globalNamed "math/bits.deBruijn64tab"=some 1:=by kernel_rfl
theorem rTabType:(Tryz.prog.globals[1]?).map (·.type)=some 204:=by kernel_rfl
theorem rCellsTab:Tryz.prog.cellsOf 204=64:=by kernel_rfl
theorem rCellsByte:Tryz.prog.cellsOf 5=1:=by kernel_rfl
theorem rOne:Tryz.prog.globalNamed "viator/rational.one"=some 0:=by kernel_rfl
theorem rOneType:(Tryz.prog.globals[0]?).map (·.type)=some 23:=by kernel_rfl

set_option maxRecDepth 100000 in
theorem one_of_laid {W:World} (h:laidMet Tryz.prog [("viator/rational.one",.agg [.lit (.bool false),.lit (.string [1])])] W):W.cell? ⟨0,0,none⟩=some (.bool false)∧W.cell? ⟨0,1,none⟩=some (.string ⟨#[1]⟩):=by
 obtain ⟨ps,⟨g',t',cs,fuel,p,q,hg',ht',hvar,hd,_,_⟩,_⟩:=h
 obtain rfl:=Option.some.inj (rOne.symm.trans hg')
 obtain rfl:=Option.some.inj (rOneType.symm.trans ht')
 have c0:=World.var?_cell rOne hvar 0
 have c1:=World.var?_cell rOne hvar 1
 obtain ⟨y0,y1,m,hx,hl,h0,h1⟩:=trod_struct2 Tryz.underlying23 hd
 obtain ⟨v0,v1,rfl⟩:=array2 (by rw [rCellsInt] at hl;simpa using hl)
 simp [rCellsBool,rCellsStr] at h0 h1
 obtain ⟨b,e0,x0⟩:=DataW.trod_bool Tryz.underlying4 h0
 obtain ⟨s,e1,x1,_⟩:=DataW.trod_string Tryz.underlying9 h1
 simp at e0 e1
 rw [x0,x1] at hx
 simp at hx
 obtain ⟨⟨rfl,hs⟩,_⟩:=hx
 have hs':s=⟨#[1]⟩:=by
  apply ByteArray.ext
  apply Array.toList_inj.1
  exact hs.symm
 rw [c0,c1,e0,e1,hs']
 exact ⟨rfl,rfl⟩

end Go.Proofs.YtdbhahiieokplaaGreatDoor
