import Derived.Test.YtpnokfgplnmjpaaGreatDoorRows
import Derived.Test.YtpnokfgplnmjpaaGreatDoorGROP
import Derived.Test.YtpnokfgplnmjpaaGreatDoorGRCC
import Derived.Deep.Strs
set_option linter.unusedSimpArgs false
set_option linter.unusedVariables false
set_option maxRecDepth 100000
namespace Go.Proofs.YtpnokfgplnmjpaaGreatDoor
open Go.ChangeShapes Go.WideShapes Go.ChangeAt Go.RowKit Go.Joins
theorem rCellsReal:Tryz.prog.cellsOf 27=9:=by kernel_rfl
theorem rCellsQuad:Tryz.prog.cellsOf 46=12:=by kernel_rfl
section
variable {H:Type} {enc:TypeId×Value→H} {W:World} {base:Nat} {sp:Nat→Bool} {held:Bool}
def dInt (b:Bool) (s:ByteArray):DataW H:=.agg [.lit (.bool b),.lit (.string s.data.toList)]
def dRat (b:Bool) (m:ByteArray) (c:Bool) (k:ByteArray):DataW H:=.agg [dInt b m,dInt c k]
theorem int_at {n:Nat} {cs:List Value} {x:DataW H×List MemPlace} (h:DataW.trod enc Tryz.prog W base sp held n 23 cs=some x):∃ b s,cs=[.bool b,.string s]∧x.1=dInt b s:=by
 obtain ⟨y0,y1,m,hx,hl,h0,h1⟩:=trod_struct2 Tryz.underlying23 h
 rw [rCellsInt] at hl
 match cs,hl with
 | [c0,c1],_ =>
   simp [rCellsBool,rCellsStr] at h0 h1
   obtain ⟨b,e0,x0⟩:=DataW.trod_bool Tryz.underlying4 h0
   obtain ⟨s,e1,x1,_⟩:=DataW.trod_string Tryz.underlying9 h1
   simp at e0 e1
   refine ⟨b,s,by rw [e0,e1],?_⟩
   rw [hx]
   show DataW.agg [y0.1,y1.1]=_
   rw [x0,x1]
   rfl
theorem rat_at {n:Nat} {cs:List Value} {x:DataW H×List MemPlace} (h:DataW.trod enc Tryz.prog W base sp held n 25 cs=some x):∃ b m c k,cs=[.bool b,.string m,.bool c,.string k]∧x.1=dRat b m c k:=by
 obtain ⟨y0,y1,mm,hx,hl,h0,h1⟩:=trod_struct2 Tryz.underlying25 h
 rw [rCellsRat] at hl
 match cs,hl with
 | [c0,c1,c2,c3],_ =>
   simp [rCellsInt] at h0 h1
   obtain ⟨b,m,e0,x0⟩:=int_at h0
   obtain ⟨c,k,e1,x1⟩:=int_at h1
   simp at e0 e1
   refine ⟨b,m,c,k,by rw [e0.1,e0.2,e1.1,e1.2],?_⟩
   rw [hx]
   show DataW.agg [y0.1,y1.1]=_
   rw [x0,x1]
   rfl
theorem open_ratd {r:Reach} {b0:Nat} {v:Value} {d:DataW H} {p:List MemPlace} (hv:Value.okWide Tryz.prog W r b0 25 v) (h:DataW.Trod enc Tryz.prog W base sp held 25 v d p) :
  ∃ b m c k,v=.agg #[.bool b,.string m,.bool c,.string k]∧d=dRat b m c k:=by
 obtain ⟨cs,rfl,hsz⟩:=okWide_struct Tryz.underlying25 hv
 obtain ⟨c0,c1,c2,c3,rfl⟩:=array4 (hsz.trans rCellsRat)
 obtain ⟨fuel,hf⟩:=h
 obtain ⟨b,m,c,k,e,x⟩:=rat_at hf
 simp [Value.cells] at e
 exact ⟨b,m,c,k,by rw [e.1,e.2.1,e.2.2.1,e.2.2.2],x⟩
theorem open_real {r:Reach} {b0:Nat} {v:Value} {d:DataW H} {p:List MemPlace} (hv:Value.okWide Tryz.prog W r b0 27 v) (h:DataW.Trod enc Tryz.prog W base sp held 27 v d p) :
  ∃ b m c k b' m' c' k' s,v=.agg #[.bool b,.string m,.bool c,.string k,.bool b',.string m',.bool c',.string k',.bool s]∧d=.agg [dRat b m c k,dRat b' m' c' k',.lit (.bool s)]:=by
 obtain ⟨cs,rfl,hsz⟩:=okWide_struct Tryz.underlying27 hv
 obtain ⟨l⟩:=cs
 have hl:l.length=9:=by simpa using hsz.trans rCellsReal
 match l,hl with
 | [c0,c1,c2,c3,c4,c5,c6,c7,c8],_ =>
   obtain ⟨fuel,hf⟩:=h
   obtain ⟨y0,y1,y2,m,hx,_,h0,h1,h2⟩:=Go.Deep.trod_struct3 Tryz.underlying27 hf
   simp [rCellsRat,rCellsBool,Value.cells] at h0 h1 h2
   obtain ⟨b,m0,c,k,e0,x0⟩:=rat_at h0
   obtain ⟨b',m',c',k',e1,x1⟩:=rat_at h1
   obtain ⟨s,e2,x2⟩:=DataW.trod_bool Tryz.underlying4 h2
   simp at e0 e1 e2
   refine ⟨b,m0,c,k,b',m',c',k',s,by rw [e0.1,e0.2.1,e0.2.2.1,e0.2.2.2,e1.1,e1.2.1,e1.2.2.1,e1.2.2.2,e2],?_⟩
   have:d=(DataW.agg [y0.1,y1.1,y2.1]:DataW H):=congrArg Prod.fst hx
   rw [this,x0,x1,x2]
theorem open_quad {r:Reach} {b0:Nat} {v:Value} {d:DataW H} {p:List MemPlace} (hv:Value.okWide Tryz.prog W r b0 46 v) (h:DataW.Trod enc Tryz.prog W base sp held 46 v d p) :
  ∃ b m c k b' m' c' k' b2 m2 c2 k2,v=.agg #[.bool b,.string m,.bool c,.string k,.bool b',.string m',.bool c',.string k',.bool b2,.string m2,.bool c2,.string k2]∧d=.agg [dRat b m c k,dRat b' m' c' k',dRat b2 m2 c2 k2]:=by
 obtain ⟨cs,rfl,hsz⟩:=okWide_struct Tryz.underlying46 hv
 obtain ⟨l⟩:=cs
 have hl:l.length=12:=by simpa using hsz.trans rCellsQuad
 match l,hl with
 | [c0,c1,c2,c3,c4,c5,c6,c7,c8,c9,c10,c11],_ =>
   obtain ⟨fuel,hf⟩:=h
   obtain ⟨y0,y1,y2,m,hx,_,h0,h1,h2⟩:=Go.Deep.trod_struct3 Tryz.underlying46 hf
   simp [rCellsRat,Value.cells] at h0 h1 h2
   obtain ⟨b,m0,c,k,e0,x0⟩:=rat_at h0
   obtain ⟨b',m',c',k',e1,x1⟩:=rat_at h1
   obtain ⟨b2,m2,c2,k2,e2,x2⟩:=rat_at h2
   simp at e0 e1 e2
   refine ⟨b,m0,c,k,b',m',c',k',b2,m2,c2,k2,by rw [e0.1,e0.2.1,e0.2.2.1,e0.2.2.2,e1.1,e1.2.1,e1.2.2.1,e1.2.2.2,e2.1,e2.2.1,e2.2.2.1,e2.2.2.2],?_⟩
   have:d=(DataW.agg [y0.1,y1.1,y2.1]:DataW H):=congrArg Prod.fst hx
   rw [this,x0,x1,x2]
theorem dRat_weights (b:Bool) (m:ByteArray) (c:Bool) (k:ByteArray):(dRat b m c k:DataW H).weights Tryz.prog 25=[m.size,k.size]:=by
 simp [dRat,dInt,DataW.weights,DataW.weightsEach,Tryz.underlying25,Tryz.underlying23]
theorem dReal_weights (b:Bool) (m:ByteArray) (c:Bool) (k:ByteArray) (b':Bool) (m':ByteArray) (c':Bool) (k':ByteArray) (s:Bool):(DataW.agg [dRat b m c k,dRat b' m' c' k',.lit (.bool s)]:DataW H).weights Tryz.prog 27=[m.size,k.size,m'.size,k'.size]:=by
 have h1:=dRat_weights (H:=H) b m c k
 have h2:=dRat_weights (H:=H) b' m' c' k'
 simp [DataW.weights,DataW.weightsEach,Tryz.underlying27,h1,h2]
theorem dQuad_weights (b:Bool) (m:ByteArray) (c:Bool) (k:ByteArray) (b':Bool) (m':ByteArray) (c':Bool) (k':ByteArray) (b2:Bool) (m2:ByteArray) (c2:Bool) (k2:ByteArray):(DataW.agg [dRat b m c k,dRat b' m' c' k',dRat b2 m2 c2 k2]:DataW H).weights Tryz.prog 46=[m.size,k.size,m'.size,k'.size,m2.size,k2.size]:=by
 have h1:=dRat_weights (H:=H) b m c k
 have h2:=dRat_weights (H:=H) b' m' c' k'
 have h3:=dRat_weights (H:=H) b2 m2 c2 k2
 simp [DataW.weights,DataW.weightsEach,Tryz.underlying46,h1,h2,h3]
end
theorem env_of_laid2 {W:World} (h:laidMet Tryz.prog [("math/bits.deBruijn64tab",Lib.tabData .u8 (Lib.deBruijn64tab.map Int.ofNat)),("viator/rational.one",.agg [.lit (.bool false),.lit (.string [1])])] W):Env W:=by
 obtain ⟨o0,o1⟩:=one_of_laid (laidMet.tail h)
 have hT:=Lib.tabIs_of_head rTab rTabType Tryz.underlying205 Tryz.underlying5 rCellsByte rCellsTab h
 refine ⟨?_,?_,o0,o1⟩
 · intro j hj
   have:=hT.cell rTab j (by simpa using hj)
   rw [this]
   congr 2
   rw [List.getD_eq_getElem?_getD,List.getD_eq_getElem?_getD,List.getElem?_map]
   rw [List.getElem?_eq_getElem hj]
   rfl
 · rcases Nat.lt_or_ge 0 W.heap.size with h | h
   · exact h
   · exfalso
     have:W.heap[0]?=none:=Array.getElem?_eq_none h
     simp [World.cell?,this] at o0
end Go.Proofs.YtpnokfgplnmjpaaGreatDoor
