import Derived.Test.YtdbhahiieokplaaGreatDoorRows
import Derived.Test.YtdbhahiieokplaaGreatDoorGROP
import Derived.Test.YtdbhahiieokplaaGreatDoorGRMR
import Derived.Deep.Strs
set_option linter.unusedSimpArgs false
set_option linter.unusedVariables false

namespace Go.Proofs.YtdbhahiieokplaaGreatDoor
open Go.ChangeShapes Go.WideShapes Go.ChangeAt Go.RowKit Go.Joins

section
variable {H:Type} {enc:TypeId×Value→H} {W:World} {base:Nat} {sp:Nat→Bool} {held:Bool}
def dInt (b:Bool) (s:ByteArray):DataW H:=.agg [.lit (.bool b),.lit (.string s.data.toList)]
def dRat (b:Bool) (m:ByteArray) (c:Bool) (k:ByteArray):DataW H:=.agg [dInt b m,dInt c k]
set_option maxRecDepth 100000 in
theorem int_at {n:Nat} {cs:List Value} {x:DataW H×List MemPlace} (h:DataW.trod enc Tryz.prog W base sp held n 23 cs=some x):∃ b s,cs=[.bool b,.string s]∧x.1=dInt b s:=by
 obtain ⟨y0,y1,m,hx,hl,h0,h1⟩:=trod_struct2 Tryz.underlying23 h
 rw [rCellsInt] at hl
 match cs,hl with
 | [c0,c1],_ =>
   simp [rCellsBool,rCellsStr] at h0 h1
   obtain ⟨b,e0,x0⟩:=DataW.trod_bool Tryz.underlying4 h0
   obtain ⟨s,e1,x1,_⟩:=DataW.trod_string Tryz.underlying9 h1
   simp at e0 e1
   refine ⟨b,s,by rw [e0,e1],?_⟩
   rw [hx]
   show DataW.agg [y0.1,y1.1]=_
   rw [x0,x1]
   rfl
set_option maxRecDepth 100000 in
theorem rat_at {n:Nat} {cs:List Value} {x:DataW H×List MemPlace} (h:DataW.trod enc Tryz.prog W base sp held n 25 cs=some x):∃ b m c k,cs=[.bool b,.string m,.bool c,.string k]∧x.1=dRat b m c k:=by
 obtain ⟨y0,y1,mm,hx,hl,h0,h1⟩:=trod_struct2 Tryz.underlying25 h
 rw [rCellsRat] at hl
 match cs,hl with
 | [c0,c1,c2,c3],_ =>
   simp [rCellsInt] at h0 h1
   obtain ⟨b,m,e0,x0⟩:=int_at h0
   obtain ⟨c,k,e1,x1⟩:=int_at h1
   simp at e0 e1
   refine ⟨b,m,c,k,by rw [e0.1,e0.2,e1.1,e1.2],?_⟩
   rw [hx]
   show DataW.agg [y0.1,y1.1]=_
   rw [x0,x1]
   rfl
set_option maxRecDepth 100000 in
theorem open_ratd {r:Reach} {b0:Nat} {v:Value} {d:DataW H} {p:List MemPlace} (hv:Value.okWide Tryz.prog W r b0 25 v) (h:DataW.Trod enc Tryz.prog W base sp held 25 v d p) :
  ∃ b m c k,v=.agg #[.bool b,.string m,.bool c,.string k]∧d=dRat b m c k:=by
 obtain ⟨cs,rfl,hsz⟩:=okWide_struct Tryz.underlying25 hv
 obtain ⟨c0,c1,c2,c3,rfl⟩:=array4 (hsz.trans rCellsRat)
 obtain ⟨fuel,hf⟩:=h
 obtain ⟨b,m,c,k,e,x⟩:=rat_at hf
 simp [Value.cells] at e
 exact ⟨b,m,c,k,by rw [e.1,e.2.1,e.2.2.1,e.2.2.2],x⟩
theorem dRat_weights (b:Bool) (m:ByteArray) (c:Bool) (k:ByteArray):(dRat b m c k:DataW H).weights Tryz.prog 25=[m.size,k.size]:=by
 simp [dRat,dInt,DataW.weights,DataW.weightsEach,Tryz.underlying25,Tryz.underlying23]
end

set_option maxRecDepth 100000 in
theorem env_of_laid2 {W:World} (h:laidMet Tryz.prog [("math/bits.deBruijn64tab",Lib.tabData .u8 (Lib.deBruijn64tab.map Int.ofNat)),("viator/rational.one",.agg [.lit (.bool false),.lit (.string [1])])] W):Env W:=by
 obtain ⟨o0,o1⟩:=one_of_laid (laidMet.tail h)
 have hT:=Lib.tabIs_of_head rTab rTabType Tryz.underlying204 Tryz.underlying5 rCellsByte rCellsTab h
 refine ⟨?_,?_,o0,o1⟩
 · intro j hj
   have:=hT.cell rTab j (by simpa using hj)
   rw [this]
   congr 2
   rw [List.getD_eq_getElem?_getD,List.getD_eq_getElem?_getD,List.getElem?_map]
   rw [List.getElem?_eq_getElem hj]
   rfl
 · rcases Nat.lt_or_ge 0 W.heap.size with h | h
   · exact h
   · exfalso
     have:W.heap[0]?=none:=Array.getElem?_eq_none h
     simp [World.cell?,this] at o0
end Go.Proofs.YtdbhahiieokplaaGreatDoor


namespace Go.Proofs.YtdbhahiieokplaaGreatDoor
open Go.ChangeShapes Go.WideShapes Go.ChangeAt Go.RowKit Go.Joins

theorem rCellsPart:Tryz.prog.cellsOf 28=2:=by kernel_rfl
theorem rCellsPair:Tryz.prog.cellsOf 54=4:=by kernel_rfl
theorem rCellsInside:Tryz.prog.cellsOf 66=2:=by kernel_rfl
theorem rCellsI32:Tryz.prog.cellsOf 21=1:=by kernel_rfl
theorem rCellsU16:Tryz.prog.cellsOf 26=1:=by kernel_rfl
theorem rCellsU8:Tryz.prog.cellsOf 5=1:=by kernel_rfl
section
variable {H:Type} {enc:TypeId×Value→H} {W:World} {base:Nat} {sp:Nat→Bool} {held:Bool}
set_option maxRecDepth 100000 in
theorem part_at {n:Nat} {cs:List Value} {x:DataW H×List MemPlace} (h:DataW.trod enc Tryz.prog W base sp held n 28 cs=some x):∃ a b:Int,cs=[.int .i32 a,.int .u16 b]∧(-2147483648≤a∧a≤2147483647)∧(0≤b∧b≤65535):=by
 obtain ⟨y0,y1,m,hx,hl,h0,h1⟩:=trod_struct2 Tryz.underlying28 h
 rw [rCellsPart] at hl
 match cs,hl with
 | [c0,c1],_ =>
   simp [rCellsI32,rCellsU16] at h0 h1
   obtain ⟨a,e0,_,w0⟩:=DataW.trod_int Tryz.underlying21 h0
   obtain ⟨b,e1,_,w1⟩:=DataW.trod_int Tryz.underlying26 h1
   simp at e0 e1
   exact ⟨a,b,by rw [e0,e1],bounds_i32 w0,bounds_u16 w1⟩
set_option maxRecDepth 100000 in
theorem open_part {r:Reach} {b0:Nat} {v:Value} {d:DataW H} {p:List MemPlace} (hv:Value.okWide Tryz.prog W r b0 28 v) (h:DataW.Trod enc Tryz.prog W base sp held 28 v d p) :
  ∃ a b:Int,v=.agg #[.int .i32 a,.int .u16 b]∧(-2147483648≤a∧a≤2147483647)∧(0≤b∧b≤65535):=by
 obtain ⟨cs,rfl,hsz⟩:=okWide_struct Tryz.underlying28 hv
 obtain ⟨c0,c1,rfl⟩:=array2 (hsz.trans rCellsPart)
 obtain ⟨fuel,hf⟩:=h
 obtain ⟨a,b,e,g⟩:=part_at hf
 simp [Value.cells] at e
 exact ⟨a,b,by rw [e.1,e.2],g⟩
set_option maxRecDepth 100000 in
theorem open_pair {r:Reach} {b0:Nat} {v:Value} {d:DataW H} {p:List MemPlace} (hv:Value.okWide Tryz.prog W r b0 54 v) (h:DataW.Trod enc Tryz.prog W base sp held 54 v d p) :
  ∃ a b a' b':Int,v=.agg #[.int .i32 a,.int .u16 b,.int .i32 a',.int .u16 b']∧((-2147483648≤a∧a≤2147483647)∧(0≤b∧b≤65535))∧((-2147483648≤a'∧a'≤2147483647)∧(0≤b'∧b'≤65535)):=by
 obtain ⟨cs,rfl,hsz⟩:=okWide_struct Tryz.underlying54 hv
 obtain ⟨c0,c1,c2,c3,rfl⟩:=array4 (hsz.trans rCellsPair)
 obtain ⟨fuel,hf⟩:=h
 obtain ⟨y0,y1,m,hx,hl,h0,h1⟩:=trod_struct2 Tryz.underlying54 hf
 simp [rCellsPart,Value.cells] at h0 h1
 obtain ⟨a,b,e0,g0⟩:=part_at h0
 obtain ⟨a',b',e1,g1⟩:=part_at h1
 simp at e0 e1
 exact ⟨a,b,a',b',by rw [e0.1,e0.2,e1.1,e1.2],g0,g1⟩
set_option maxRecDepth 100000 in
theorem open_inside {r:Reach} {b0:Nat} {v:Value} {d:DataW H} {p:List MemPlace} (hv:Value.okWide Tryz.prog W r b0 66 v) (h:DataW.Trod enc Tryz.prog W base sp held 66 v d p) :
  ∃ a b:Nat,v=.agg #[.int .u8 (a:Int),.int .u8 (b:Int)]∧a<256∧b<256:=by
 obtain ⟨cs,rfl,hsz⟩:=okWide_struct Tryz.underlying66 hv
 obtain ⟨c0,c1,rfl⟩:=array2 (hsz.trans rCellsInside)
 obtain ⟨fuel,hf⟩:=h
 obtain ⟨y0,y1,m,hx,hl,h0,h1⟩:=trod_struct2 Tryz.underlying66 hf
 simp [rCellsU8,Value.cells] at h0 h1
 obtain ⟨a,e0,_,w0⟩:=DataW.trod_int Tryz.underlying5 h0
 obtain ⟨b,e1,_,w1⟩:=DataW.trod_int Tryz.underlying5 h1
 simp at e0 e1
 have g0:=bounds_u8 w0
 have g1:=bounds_u8 w1
 exact ⟨a.toNat,b.toNat,by rw [e0,e1,show ((a.toNat:Nat):Int)=a by omega,show ((b.toNat:Nat):Int)=b by omega],by omega,by omega⟩
end
end Go.Proofs.YtdbhahiieokplaaGreatDoor
