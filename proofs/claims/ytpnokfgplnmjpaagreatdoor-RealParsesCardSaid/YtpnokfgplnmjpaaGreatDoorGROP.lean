import Derived.Test.YtpnokfgplnmjpaaGreatDoorRows
import Derived.Test.YtpnokfgplnmjpaaGreatDoorGRCA
import Derived.ProofKit
import Derived.OpenShut
import Derived.ShutString
import Derived.ChangeOld
import Derived.Lib.SmallJoins
import Derived.Lib.LaidTab
import Derived.LaidMore
import Derived.Stop.Joined
import Derived.Stop.LaidErr
set_option linter.unusedSimpArgs false
set_option linter.unusedVariables false

namespace Go.Proofs.YtpnokfgplnmjpaaGreatDoor
open Go.ChangeShapes Go.WideShapes Go.ChangeAt Go.RowKit Go.Joins

theorem rCellsInt:Tryz.prog.cellsOf 23=2:=by kernel_rfl
theorem rCellsRat:Tryz.prog.cellsOf 25=4:=by kernel_rfl
theorem rCellsBool:Tryz.prog.cellsOf 4=1:=by kernel_rfl
theorem rCellsStr:Tryz.prog.cellsOf 9=1:=by kernel_rfl
section
variable {H:Type} {enc:TypeId×Value→H} {W:World} {base:Nat} {sp:Nat→Bool} {held:Bool}
end

theorem rTab:Tryz.prog.globalNamed "math/bits.deBruijn64tab"=some 1:=by kernel_rfl
theorem rTabType:(Tryz.prog.globals[1]?).map (·.type)=some 205:=by kernel_rfl
theorem rCellsTab:Tryz.prog.cellsOf 205=64:=by kernel_rfl
theorem rCellsByte:Tryz.prog.cellsOf 5=1:=by kernel_rfl
theorem rTen:Tryz.prog.globalNamed "internal/strconv.uint64pow10"=some 5:=by kernel_rfl
theorem rTenType:(Tryz.prog.globals[5]?).map (·.type)=some 227:=by kernel_rfl
theorem rCellsTen:Tryz.prog.cellsOf 227=20:=by kernel_rfl
theorem rCellsWord:Tryz.prog.cellsOf 124=1:=by kernel_rfl
theorem rOne:Tryz.prog.globalNamed "viator/rational.one"=some 0:=by kernel_rfl
theorem rOneType:(Tryz.prog.globals[0]?).map (·.type)=some 23:=by kernel_rfl

set_option maxRecDepth 100000 in
theorem one_of_laid {W:World} (h:laidMet Tryz.prog [("viator/rational.one",.agg [.lit (.bool false),.lit (.string [1])])] W):W.cell? ⟨0,0,none⟩=some (.bool false)∧W.cell? ⟨0,1,none⟩=some (.string ⟨#[1]⟩):=by
 obtain ⟨ps,⟨g',t',cs,fuel,p,q,hg',ht',hvar,hd,_,_⟩,_⟩:=h
 obtain rfl:=Option.some.inj (rOne.symm.trans hg')
 obtain rfl:=Option.some.inj (rOneType.symm.trans ht')
 have c0:=World.var?_cell rOne hvar 0
 have c1:=World.var?_cell rOne hvar 1
 obtain ⟨y0,y1,m,hx,hl,h0,h1⟩:=trod_struct2 Tryz.underlying23 hd
 obtain ⟨v0,v1,rfl⟩:=array2 (by rw [rCellsInt] at hl;simpa using hl)
 simp [rCellsBool,rCellsStr] at h0 h1
 obtain ⟨b,e0,x0⟩:=DataW.trod_bool Tryz.underlying4 h0
 obtain ⟨s,e1,x1,_⟩:=DataW.trod_string Tryz.underlying9 h1
 simp at e0 e1
 rw [x0,x1] at hx
 simp at hx
 obtain ⟨⟨rfl,hs⟩,_⟩:=hx
 have hs':s=⟨#[1]⟩:=by
  apply ByteArray.ext
  apply Array.toList_inj.1
  exact hs.symm
 rw [c0,c1,e0,e1,hs']
 exact ⟨rfl,rfl⟩

set_option maxRecDepth 100000 in
theorem env_of_laid {W:World} (h:laidMet Tryz.prog [("math/bits.deBruijn32tab",Rows.laid_math_bits_deBruijn32tab),("math/bits.deBruijn64tab",Lib.tabData .u8 (Lib.deBruijn64tab.map Int.ofNat)),("internal/strconv.uint64pow10",Lib.tabData .u64 Lib.pow10Tab),("viator/rational.one",.agg [.lit (.bool false),.lit (.string [1])])] W):EnvT W:=by
 have h1:=laidMet.tail h
 have h2:=laidMet.tail h1
 obtain ⟨o0,o1⟩:=one_of_laid (laidMet.tail h2)
 have hT:=Lib.tabIs_of_head rTab rTabType Tryz.underlying205 Tryz.underlying5 rCellsByte rCellsTab h1
 refine ⟨⟨?_,?_,o0,o1⟩,Lib.tabIs_of_head rTen rTenType Tryz.underlying227 Tryz.underlying124 rCellsWord rCellsTen h2⟩
 · intro j hj
   have:=hT.cell rTab j (by simpa using hj)
   rw [this]
   congr 2
   rw [List.getD_eq_getElem?_getD,List.getD_eq_getElem?_getD,List.getElem?_map]
   rw [List.getElem?_eq_getElem hj]
   rfl
 · rcases Nat.lt_or_ge 0 W.heap.size with h | h
   · exact h
   · exfalso
     have:W.heap[0]?=none:=Array.getElem?_eq_none h
     simp [World.cell?,this] at o0
end Go.Proofs.YtpnokfgplnmjpaaGreatDoor
