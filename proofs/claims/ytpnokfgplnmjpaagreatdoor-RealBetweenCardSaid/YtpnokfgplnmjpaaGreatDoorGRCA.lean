import Derived.Test.YtpnokfgplnmjpaaGreatDoorGPk
import Derived.Test.YtpnokfgplnmjpaaGreatDoorGRHI
import Derived.Test.YtpnokfgplnmjpaaGreatDoorGQT2
import Derived.LaidEqlPtr
import Derived.Test.YtpnokfgplnmjpaaGreatDoorGQW
set_option linter.unusedSimpArgs false
set_option linter.unusedVariables false
set_option maxRecDepth 100000
set_option maxHeartbeats 4000000
open Go.Lib (hid)
open Go.Proofs.Tryz (prog)
namespace Go.Proofs.YtpnokfgplnmjpaaGreatDoor
open Go.RowKit
attribute [local go_sem ↓] Go.wp_at_zero Go.wp_at_succ
section
variable {w wr w2:World} {t:ByteArray} {pos:Nat} {p r:List UInt8}
end
theorem bval_lit (c:UInt8):bval ⟨#[c]⟩=c.toNat:=by
 show 0+dig ⟨#[c]⟩ 0*256^0=c.toNat;rw [show dig ⟨#[c]⟩ 0=c.toNat from rfl];simp
theorem lit_one (neg:Bool) (c:UInt8) (x:Int) (hc:c.toNat≠0) (hx:x=sgn neg c.toNat):enc x=.agg #[.bool neg,.string ⟨#[c]⟩]:=by
 rw [hx];have h:=enc_eq (neg:=neg) (s:=⟨#[c]⟩) ⟨fun _=>hc,fun h=>by simp [ByteArray.size] at h⟩ (z:=sgn neg c.toNat) (by unfold ival sgn;rw [bval_lit c]);exact h.symm
theorem mag_lit (c:UInt8) (hc:c.toNat≠0):mag c.toNat=⟨#[c]⟩:=by
 have h:=lit_one false c c.toNat hc rfl;exact ((enc_parts h).2.trans (by rw [Int.natAbs_natCast])).symm
theorem mag_2:mag 2=⟨#[2]⟩:=mag_lit 2 dc
end Go.Proofs.YtpnokfgplnmjpaaGreatDoor
namespace Go.Proofs.YtpnokfgplnmjpaaGreatDoor
open Go.RowKit
section
variable {W:World} {g g':Nat} {cs:Array Value} {T:TypeId} {x0 x1 x2 x3:Value}
theorem Bq.set2 (h:Bq g cs T W) (hne:g≠g') (x y:Value):Bq g cs T ((W.setCell ⟨g',0,none⟩ x).setCell ⟨g',1,none⟩ y) :=
 ⟨(qoth hne x y).trans h.k,by rw [qsz];exact h.lt⟩
theorem qsz3 (x y z:Value):(((W.setCell ⟨g,0,none⟩ x).setCell ⟨g,1,none⟩ y).setCell ⟨g,2,none⟩ z).heap.size=W.heap.size:=by simp [World.setCell]
theorem Bq.set3 (h:Bq g cs T W) (hne:g≠g') (x y z:Value):Bq g cs T (((W.setCell ⟨g',0,none⟩ x).setCell ⟨g',1,none⟩ y).setCell ⟨g',2,none⟩ z) :=
 ⟨((Below.heap_setCell _ ⟨g',2,none⟩ z g hne).trans (qoth hne x y)).trans h.k,by rw [qsz3];exact h.lt⟩
theorem Bq.self3 (h:Bq g #[x0,x1,x2] T W) (x y z:Value):Bq g #[x,y,z] T (((W.setCell ⟨g,0,none⟩ x).setCell ⟨g,1,none⟩ y).setCell ⟨g,2,none⟩ z) :=
 ⟨by have hk:=h.k;simp [World.setCell,Array.getElem?_modify,hk],by rw [qsz3];exact h.lt⟩
theorem Bq.self4 (h:Bq g #[x0,x1,x2,x3] T W) (x y z u:Value):Bq g #[x,y,z,u] T ((((W.setCell ⟨g,0,none⟩ x).setCell ⟨g,1,none⟩ y).setCell ⟨g,2,none⟩ z).setCell ⟨g,3,none⟩ u) :=
 ⟨by have hk:=h.k;simp [World.setCell,Array.getElem?_modify,hk],by rw [qsz4];exact h.lt⟩
end
structure Sb (w:World) (l:List (Nat×Array Value×TypeId)) (rs:List (Option Addr×Nat×Nat×Nat)) (W:World):Prop where
 k:∀ x∈l,W.heap[x.1]?=some (.cells x.2.1 x.2.2 (0,0))
 lo:∀ x∈l,w.heap.size≤x.1
 ne:∀ (i j:Nat) (x y:Nat×Array Value×TypeId),l[i]?=some x→l[j]?=some y→i≠j→x.1≠y.1
 tr:∀ r∈rs,Tr W r.1 r.2.1 r.2.2.1 r.2.2.2
 ap:∀ r∈rs,∀ x∈l,0<r.2.1→∀ a,r.1=some a→a.block≠x.1
 bel:Below w.heap.size w W
theorem Tr.block_lt {W:World} {A:Option Addr} {n c V:Nat} (h:Tr W A n c V) (hn:0<n) {a:Addr} (e:A=some a):a.block<W.heap.size:=by
 obtain ⟨g,o,e',hg,_⟩:=h.dg.rd hn;rw [e] at e'
 injection e' with e'
 subst e';exact hg
theorem Tr.keep {W W2:World} {A:Option Addr} {n c V:Nat} (h:Tr W A n c V) (hk:0<n→∀ a,A=some a→W2.heap[a.block]?=W.heap[a.block]?) (hs:W.heap.size≤W2.heap.size):Tr W2 A n c V :=
 ⟨⟨h.dg.lt,fun hn=>by
   obtain ⟨g,o,e,hg,hc⟩:=h.dg.rd hn;exact ⟨g,o,e,Nat.lt_of_lt_of_le hg hs,fun j hj=>(World.cell?_of_block (w:=W) (a:=⟨g,o+j,none⟩) (by have h1:=hk hn _ e;exact h1)).trans (hc j hj)⟩⟩,h.ln,h.cap,h.nil⟩
section
variable {w W W2:World} {l l':List (Nat×Array Value×TypeId)} {rs rs':List (Option Addr×Nat×Nat×Nat)} {g:Nat} {cs cs':Array Value} {T:TypeId}
theorem Sb.lt (h:Sb w l rs W) {x:Nat×Array Value×TypeId} (hx:x∈l):x.1<W.heap.size:=(Array.getElem?_eq_some_iff.1 (h.k x hx)).1
theorem Sb.start (w:World):Sb w [] [] w:=⟨fun _ h=>by simp at h,fun _ h=>by simp at h,fun _ _ _ _ h=>by simp at h,fun _ h=>by simp at h,fun _ h=>by simp at h,Below.refl _ _⟩
theorem Sb.next (h:Sb w l rs W) (hb:Below W.heap.size W W2):Sb w l rs W2 :=
 ⟨fun x hx=>(hb.block _ (h.lt hx)).trans (h.k x hx),h.lo,h.ne,fun r hr=>(h.tr r hr).below hb,h.ap,h.bel.trans (hb.mono h.bel.size)⟩
theorem Sb.drew (h:Sb w l rs W):Sb w l rs W.drew:=h.next (Below.refl _ _).drew
theorem Sb.new (h:Sb w l rs W) (cs:Array Value) (T:TypeId):Sb w (l++[(W.heap.size,cs,T)]) rs (W.alloc (.cells cs T)):=by
 have hn:=h.next (below_new W (.cells cs T))
 refine ⟨fun x hx=>?_,fun x hx=>?_,fun i j x y hi hj hij=>?_,hn.tr,fun r hr x hx hn a ha=>?_,hn.bel⟩
 · rcases List.mem_append.1 hx with h1 | h1
   · exact hn.k x h1
   · obtain rfl:x=_:=by simpa using h1
     exact heap_one _ _
 · rcases List.mem_append.1 hx with h1 | h1
   · exact h.lo x h1
   · obtain rfl:x=_:=by simpa using h1
     exact h.bel.size
 · have key : ∀ {i x}, (l ++ [(W.heap.size, cs, T)])[i]? = some x → (i < l.length ∧ l[i]? = some x) ∨ (i = l.length ∧ x.1 = W.heap.size) := by
    intro i x hi;rcases Nat.lt_trichotomy i l.length with h1 | h1 | h1
    · rw [List.getElem?_append_left h1] at hi;exact .inl ⟨h1,hi⟩
    · exact k103
    · rw [List.getElem?_append_right om] at hi;have:i-l.length≠0:=om;exact k122
   exact k68
 · rcases List.mem_append.1 hx with h1 | h1
   · exact h.ap r hr x h1 hn a ha
   · obtain rfl:x=_:=by simpa using h1
     have:=(h.tr r hr).block_lt hn ha;show a.block≠W.heap.size;omega
theorem Sb.row (h:Sb w l rs W) (hb:Below W.heap.size W W2) {A:Option Addr} {n c V:Nat} (ht:Tr W2 A n c V) (hf:∀ a,A=some a→W.heap.size≤a.block):Sb w l (rs++[(A,n,c,V)]) W2:=by
 have hn:=h.next hb
 refine ⟨hn.k,hn.lo,hn.ne,fun r hr=>?_,fun r hr x hx h0 a ha=>?_,hn.bel⟩
 · rcases List.mem_append.1 hr with h1 | h1
   · exact hn.tr r h1
   · obtain rfl:r=_:=by simpa using h1
     exact ht
 · rcases List.mem_append.1 hr with h1 | h1
   · exact h.ap r h1 x hx h0 a ha
   · obtain rfl:r=_:=by simpa using h1
     have h2:=hf a ha;have h3:=h.lt hx;omega
theorem Sb.row2 (h:Sb w l rs W) (hb:Below W.heap.size W W2) {A B:Option Addr} {n c V m d U:Nat} (ht:Tr W2 A n c V) (hu:Tr W2 B m d U) (hf:∀ a,A=some a→W.heap.size≤a.block) (hg:∀ a,B=some a→W.heap.size≤a.block):Sb w l (rs++[(A,n,c,V),(B,m,d,U)]) W2:=by
 have hn:=h.next hb
 refine ⟨hn.k,hn.lo,hn.ne,fun r hr=>?_,fun r hr x hx h0 a ha=>?_,hn.bel⟩
 · rcases List.mem_append.1 hr with h1 | h1
   · exact hn.tr r h1
   · rcases (by simpa using h1:r=_∨r=_) with rfl | rfl
     · exact ht
     · exact hu
 · rcases List.mem_append.1 hr with h1 | h1
   · exact h.ap r h1 x hx h0 a ha
   · have h3:=h.lt hx;rcases (by simpa using h1:r=_∨r=_) with rfl | rfl
     · have h2:=hf a ha;omega
     · have h2:=hg a ha;omega
theorem Sb.put (h:Sb w l rs W) {i:Nat} (hl:l[i]?=some (g,cs,T)) (hk:W2.heap[g]?=some (.cells cs' T (0,0))) (ho:∀ k,k≠g→W2.heap[k]?=W.heap[k]?) (hs:W.heap.size≤W2.heap.size) (hb:Below w.heap.size W W2):Sb w (l.set i (g,cs',T)) rs W2:=by
 have hi:i<l.length:=(List.getElem?_eq_some_iff.1 hl).1;have hm:=List.mem_of_getElem? hl
 have key:∀ {j x},(l.set i (g,cs',T))[j]?=some x→∃ y,l[j]?=some y∧x.1=y.1∧(j≠i→x=y)∧(j=i→x=(g,cs',T)):=by
  intro j x hj;rw [List.getElem?_set] at hj
  split at hj
  · rename_i h1
    subst h1;try rw [if_pos hi] at hj
    injection hj with hj
    exact ⟨_,hl,by rw [←hj],fun h=>absurd rfl h,fun _=>hj.symm⟩
  · rename_i h1
    exact ⟨x,hj,rfl,fun _=>rfl,fun h=>absurd h.symm h1⟩
 have mem:∀ {x},x∈l.set i (g,cs',T)→∃ j,(l.set i (g,cs',T))[j]?=some x:=fun hx=>List.getElem?_of_mem hx
 refine ⟨fun x hx=>?_,fun x hx=>?_,fun j j' x y hx hy hne=>?_,fun r hr=>?_,fun r hr x hx h0 a ha=>?_,h.bel.trans hb⟩
 · obtain ⟨j,hj⟩:=mem hx;obtain ⟨y,h1,h2,h3,h4⟩:=key hj;by_cases hji:j=i
   · rw [h4 hji];exact hk
   · rw [h3 hji];exact (ho _ (h.ne j i y _ h1 hl hji)).trans (h.k y (List.mem_of_getElem? h1))
 · obtain ⟨j,hj⟩:=mem hx;obtain ⟨y,h1,h2,h3,h4⟩:=key hj;rw [h2];exact h.lo y (List.mem_of_getElem? h1)
 · obtain ⟨x',h1,h2,_,_⟩:=key hx;obtain ⟨y',h3,h4,_,_⟩:=key hy;rw [h2,h4];exact h.ne j j' x' y' h1 h3 hne
 · exact (h.tr r hr).keep (fun h0 a ha=>ho _ (h.ap r hr _ hm h0 a ha)) hs
 · obtain ⟨j,hj⟩:=mem hx;obtain ⟨y,h1,h2,h3,h4⟩:=key hj;rw [h2];exact h.ap r hr y (List.mem_of_getElem? h1) h0 a ha
theorem Sb.set2 (h:Sb w l rs W) {i:Nat} {x0 x1:Value} (hl:l[i]?=some (g,#[x0,x1],T)) (x y:Value):Sb w (l.set i (g,#[x,y],T)) rs ((W.setCell ⟨g,0,none⟩ x).setCell ⟨g,1,none⟩ y) :=
 h.put hl (qset (h.k _ (List.mem_of_getElem? hl)) x y) (fun k hk=>qoth hk x y) (Nat.le_of_eq (qsz x y).symm) (below_set2 (Below.refl _ _) (h.lo _ (List.mem_of_getElem? hl)) x y)
theorem Sb.set3 (h:Sb w l rs W) {i:Nat} {x0 x1 x2:Value} (hl:l[i]?=some (g,#[x0,x1,x2],T)) (x y z:Value):Sb w (l.set i (g,#[x,y,z],T)) rs (((W.setCell ⟨g,0,none⟩ x).setCell ⟨g,1,none⟩ y).setCell ⟨g,2,none⟩ z) :=
 h.put hl (Bq.self3 ⟨h.k _ (List.mem_of_getElem? hl),h.lt (List.mem_of_getElem? hl)⟩ x y z).k (fun k hk=>(Below.heap_setCell _ ⟨g,2,none⟩ z k hk).trans (qoth hk x y)) (Nat.le_of_eq (qsz3 x y z).symm) (below_set3 (Below.refl _ _) (h.lo _ (List.mem_of_getElem? hl)) x y z)
theorem Sb.set4 (h:Sb w l rs W) {i:Nat} {x0 x1 x2 x3:Value} (hl:l[i]?=some (g,#[x0,x1,x2,x3],T)) (x y z u:Value):Sb w (l.set i (g,#[x,y,z,u],T)) rs ((((W.setCell ⟨g,0,none⟩ x).setCell ⟨g,1,none⟩ y).setCell ⟨g,2,none⟩ z).setCell ⟨g,3,none⟩ u) :=
 h.put hl (Bq.self4 ⟨h.k _ (List.mem_of_getElem? hl),h.lt (List.mem_of_getElem? hl)⟩ x y z u).k (fun k hk=>qoth4 hk x y z u) (Nat.le_of_eq (qsz4 x y z u).symm) (below_set4 (Below.refl _ _) (h.lo _ (List.mem_of_getElem? hl)) x y z u)
theorem Sb.pick (h:Sb w l rs W) (is:List Nat) (l':List (Nat×Array Value×TypeId)) (rs':List (Option Addr×Nat×Nat×Nat)) (hl:is.map (fun i:Nat=>l[i]?)=l'.map some) (hn:is.Nodup) (hr:∀ r∈rs',r∈rs):Sb w l' rs' W:=by
 have at':∀ {j:Nat} {x:Nat×Array Value×TypeId},l'[j]?=some x→∃ i,is[j]?=some i∧l[i]?=some x:=by
  intro j x hj;have h1:(l'.map some)[j]?=some (some x):=by rw [List.getElem?_map,hj];rfl
  rw [←hl,List.getElem?_map] at h1;obtain ⟨i,h2,h3⟩:=Option.map_eq_some_iff.1 h1;exact ⟨i,h2,h3⟩
 have mem:∀ {x:Nat×Array Value×TypeId},x∈l'→x∈l:=fun hx=>by
  obtain ⟨j,hj⟩:=List.getElem?_of_mem hx;obtain ⟨i,_,h2⟩:=at' hj;exact List.mem_of_getElem? h2
 refine ⟨fun x hx=>h.k x (mem hx),fun x hx=>h.lo x (mem hx),fun j j' x y hx hy hne=>?_,fun r hr'=>h.tr r (hr r hr'),fun r hr' x hx=>h.ap r (hr r hr') x (mem hx),h.bel⟩;obtain ⟨i,h1,h2⟩:=at' hx;obtain ⟨i',h3,h4⟩:=at' hy;refine h.ne i i' x y h2 h4 fun e=>hne ?_
 subst e;obtain ⟨ha,hb⟩:=List.getElem?_eq_some_iff.1 h1;obtain ⟨hc,hd⟩:=List.getElem?_eq_some_iff.1 h3;exact (List.getElem_inj hn).1 (hb.trans hd.symm)
theorem wexi (_:Sb w l rs W):∃ V,V=W:=⟨_,rfl⟩
theorem Sb.rw (h:Sb w l rs W) {i n c V:Nat} {A:Option Addr} (hl:rs[i]?=some (A,n,c,V)):Tr W A n c V:=h.tr _ (List.mem_of_getElem? hl)
theorem Sb.at (h:Sb w l rs W) {i:Nat} (hl:l[i]?=some (g,cs,T)):W.heap[g]?=some (.cells cs T (0,0)):=h.k _ (List.mem_of_getElem? hl)
theorem Sb.c2 (h:Sb w l rs W) {i:Nat} {x0 x1:Value} (hl:l[i]?=some (g,#[x0,x1],T)):W.cell? ⟨g,0,none⟩=some x0∧W.cell? ⟨g,1,none⟩=some x1:=⟨(blk_cells (h.at hl)).1,(blk_cells (h.at hl)).2.1⟩
theorem Sb.f2 (h:Sb w l rs W) {i:Nat} {x0 x1:Value} (hl:l[i]?=some (g,#[x0,x1],T)):W.frozen? ⟨g,0,none⟩=false∧W.frozen? ⟨g,1,none⟩=false:=⟨(blk_cells (h.at hl)).2.2.1,(blk_cells (h.at hl)).2.2.2⟩
theorem Sb.c3 (h:Sb w l rs W) {i:Nat} {x0 x1 x2:Value} (hl:l[i]?=some (g,#[x0,x1,x2],T)):W.cell? ⟨g,0,none⟩=some x0∧W.cell? ⟨g,1,none⟩=some x1∧W.cell? ⟨g,2,none⟩=some x2:=⟨(blk3 (h.at hl)).1,(blk3 (h.at hl)).2.1,(blk3 (h.at hl)).2.2.1⟩
theorem Sb.f3 (h:Sb w l rs W) {i:Nat} {x0 x1 x2:Value} (hl:l[i]?=some (g,#[x0,x1,x2],T)):W.frozen? ⟨g,0,none⟩=false∧W.frozen? ⟨g,1,none⟩=false∧W.frozen? ⟨g,2,none⟩=false:=(blk3 (h.at hl)).2.2.2
theorem Sb.c4 (h:Sb w l rs W) {i:Nat} {x0 x1 x2 x3:Value} (hl:l[i]?=some (g,#[x0,x1,x2,x3],T)):W.cell? ⟨g,0,none⟩=some x0∧W.cell? ⟨g,1,none⟩=some x1∧W.cell? ⟨g,2,none⟩=some x2∧W.cell? ⟨g,3,none⟩=some x3:=blk4 (h.at hl)
theorem Sb.f4 (h:Sb w l rs W) {i:Nat} {x0 x1 x2 x3:Value} (hl:l[i]?=some (g,#[x0,x1,x2,x3],T)):W.frozen? ⟨g,0,none⟩=false∧W.frozen? ⟨g,1,none⟩=false∧W.frozen? ⟨g,2,none⟩=false∧W.frozen? ⟨g,3,none⟩=false:=fro4 (h.at hl)
end
def takeB (md:Region.Mode) (ops:Array Oper) (L:List Nat) (listed:Array Bool) (i:Nat):Bool :=
 Region.noSelect ops && Region.free md ops listed i && (Region.ready md ops listed).contains i && closedB md ops listed && L.all (fun j=>waits md ops i ops.size j)
theorem tk {P:Program} {ops:Array Oper} {Q:Exit→Act→World→Prop} {md:Region.Mode} {S:World→Prop} {L:List Nat} {i:Nat} {oi:Oper} {v:Value} {fuel:Nat} {listed:Array Bool} {a:Act} {w:World} (hi:ops[i]?=some oi) (hb:takeB md ops L listed i=true)
  (hQ:∀ c a w,Q (.panic c) (a.put oi.dst v) w→Q (.panic c) a w) (hS:S w) (hy:YieldsIf P ops S oi v a)
  (h:wpLate P md ops Q S L fuel (listed.setIfInBounds i true) (a.put oi.dst v) w):wpLate P md ops Q S L (fuel+1) listed a w:=by
 simp only [takeB,Bool.and_eq_true] at hb;obtain ⟨⟨⟨⟨h1,h2⟩,h3⟩,h4⟩,h5⟩:=hb;exact wpLate_take hi h1 h2 h3 h4 h5 hQ hy hS h
theorem seti {α:Type} (xs:List α) (i:Nat) (a:α):xs.toArray.setIfInBounds i a=(xs.set i a).toArray:=List.setIfInBounds_toArray ..
theorem set0 {α:Type} (x y:α) (xs:List α):(x :: xs).set 0 y=y :: xs:=rfl
theorem setS {α:Type} (x y:α) (xs:List α) (n:Nat):(x :: xs).set (n+1) y=x :: xs.set n y:=rfl
inductive Eff
 | val (v:Value)
 | new (cs:Array Value) (T:TypeId)
 | rel (p:Value→World→Prop)
structure Rg (w0:World) (a0:Act) (ef:List Eff) (ds:List Nat) (listed:Array Bool) (a:Act) (w:World):Prop where
 bel:Below w0.heap.size w0 w
 sz:a.tmps.size=a0.tmps.size
 df:a.defers=a0.defers
 keep:∀ k,k∉ds→a.tmps.getD k undef=a0.tmps.getD k undef
 val:∀ i v,listed.getD i false=true→ef[i]?=some (.val v)→a.tmps.getD (ds.getD i 0) undef=v
 new:∀ i cs T,listed.getD i false=true→ef[i]?=some (.new cs T)→∃ g,a.tmps.getD (ds.getD i 0) undef=.pointer (some ⟨g,0,none⟩)∧w0.heap.size≤g∧w.heap[g]?=some (.cells cs T (0,0))
 rel:∀ i p,listed.getD i false=true→ef[i]?=some (.rel p)→p (a.tmps.getD (ds.getD i 0) undef) w
 ne:∀ i j cs T cs' T' g,i≠j→listed.getD i false=true→listed.getD j false=true→ef[i]?=some (.new cs T)→ef[j]?=some (.new cs' T')→a.tmps.getD (ds.getD i 0) undef=.pointer (some ⟨g,0,none⟩)→a.tmps.getD (ds.getD j 0) undef≠.pointer (some ⟨g,0,none⟩)
def Did (ef:List Eff) (i:Nat) (w:World) (v:Value) (w':World):Prop :=
 (ef[i]?=some (.val v)∧Below w.heap.size w w')∨(∃ cs T,ef[i]?=some (.new cs T)∧v=.pointer (some ⟨w.heap.size,0,none⟩)∧w'=w.alloc (.cells cs T))∨(∃ p,ef[i]?=some (.rel p)∧p v w'∧Below w.heap.size w w')
def Stays (ef:List Eff):Prop:=∀ (i:Nat) (p:Value→World→Prop),ef[i]?=some (.rel p)→∀ v w w',p v w→Below w.heap.size w w'→p v w'
theorem put_at (a:Act) (d:Nat) (v:Value) (h:d<a.tmps.size):(a.put (some d) v).tmps.getD d undef=v:=by
 simp [Act.put,Array.getD_eq_getD_getElem?,h]
theorem put_not (a:Act) {d k:Nat} (v:Value) (h:d≠k):(a.put (some d) v).tmps.getD k undef=a.tmps.getD k undef:=by
 simp [Act.put,Array.getD_eq_getD_getElem?,Array.getElem?_setIfInBounds_ne h]
theorem put_size (a:Act) (d:Nat) (v:Value):(a.put (some d) v).tmps.size=a.tmps.size:=by simp [Act.put]
section
variable {w0 w w':World} {a0 a:Act} {ef:List Eff} {ds:List Nat} {listed:Array Bool} {i d:Nat}
theorem nodup_ne (hnd:ds.Nodup) (hi:ds[i]?=some d) {j:Nat} (hj:j<ds.length) (hne:j≠i):ds.getD j 0≠d:=by
 intro e;obtain ⟨h1,h2⟩:=List.getElem?_eq_some_iff.1 hi
 have h3:ds[j]=ds[i]:=by
  rw [h2,←e];simp [List.getD,hj]
 exact hne ((List.getElem_inj hnd).1 h3)
theorem Rg.step (h:Rg w0 a0 ef ds listed a w) (hst:Stays ef) (hnd:ds.Nodup) (hlen:ef.length=ds.length) (hi:ds[i]?=some d) (hd:d<a0.tmps.size) (hl:listed.getD i false=false) (hs:i<listed.size) {v:Value} (hdid:Did ef i w v w') :
  Rg w0 a0 ef ds (listed.setIfInBounds i true) (a.put (some d) v) w':=by
 have hdi:ds.getD i 0=d:=by simp [List.getD,hi]
 have hmem:d∈ds:=List.mem_of_getElem? hi;have hda:d<a.tmps.size:=by rw [h.sz];exact hd
 have hb:Below w.heap.size w w':=by
  rcases hdid with ⟨_,hb⟩ | ⟨cs,T,_,_,rfl⟩ | ⟨p,_,_,hb⟩
  · exact hb
  · exact below_new _ _
  · exact hb
 have was:∀ {j:Nat},j≠i→(listed.setIfInBounds i true).getD j false=true→listed.getD j false=true:=fun hne hj=>by
  rw [getD_set_ne false (Ne.symm hne)] at hj;exact hj
 have other:∀ {j:Nat} {x:Eff},j≠i→ef[j]?=some x→(a.put (some d) v).tmps.getD (ds.getD j 0) undef=a.tmps.getD (ds.getD j 0) undef:=fun hne hj=>by
  have hjl:=(List.getElem?_eq_some_iff.1 hj).1;exact put_not a v (Ne.symm (nodup_ne hnd hi om hne))
 refine ⟨h.bel.trans (hb.mono h.bel.size),(put_size a d v).trans h.sz,h.df,fun k hk=>?_,fun j u hj he=>?_,fun j cs T hj he=>?_,fun j p hj he=>?_,fun j k cs T cs' T' g hne hj hk he hf hg=>?_⟩
 · rw [put_not a (k:=k) v (fun e:d=k=>hk (by rw [←e];exact hmem))];exact h.keep k hk
 · by_cases hji:j=i
   · subst hji;rw [hdi,put_at a d v hda];rcases hdid with ⟨h1,_⟩ | ⟨cs,T,h1,_,_⟩ | ⟨p,h1,_,_⟩
     · rw [he] at h1;injection h1 with h1;injection h1 with h1;exact h1.symm
     · rw [he] at h1;injection h1 with h1;cases h1
     · rw [he] at h1;injection h1 with h1;cases h1
   · rw [other hji he];exact h.val j u (was hji hj) he
 · by_cases hji:j=i
   · subst hji;rw [hdi,put_at a d v hda];rcases hdid with ⟨h1,_⟩ | ⟨cs',T',h1,hv,hw⟩ | ⟨p,h1,_,_⟩
     · rw [he] at h1;injection h1 with h1;cases h1
     rotate_left
     · rw [he] at h1;injection h1 with h1;cases h1
     · rw [he] at h1
       injection h1 with h1
       injection h1 with h1 h2
       subst h1;subst h2;subst hv;subst hw;exact ⟨_,rfl,h.bel.size,heap_one _ _⟩
   · rw [other hji he];obtain ⟨g,h1,h2,h3⟩:=h.new j cs T (was hji hj) he;exact ⟨g,h1,h2,(hb.block _ (Array.getElem?_eq_some_iff.1 h3).1).trans h3⟩
 · by_cases hji:j=i
   · subst hji;rw [hdi,put_at a d v hda];rcases hdid with ⟨h1,_⟩ | ⟨cs,T,h1,_,_⟩ | ⟨p',h1,hp,_⟩
     · rw [he] at h1;injection h1 with h1;cases h1
     · rw [he] at h1;injection h1 with h1;cases h1
     · rw [he] at h1
       injection h1 with h1
       injection h1 with h1
       subst h1;exact hp
   · rw [other hji he];exact hst j p he _ _ _ (h.rel j p (was hji hj) he) hb
 · by_cases hji:j=i
   · subst hji;have hki:k≠j:=Ne.symm hne;rw [other hki hf];rw [hdi,put_at a d v hda] at hg;rcases hdid with ⟨h1,_⟩ | ⟨cs2,T2,h1,hv,hw⟩ | ⟨p,h1,_,_⟩
     · rw [he] at h1;injection h1 with h1;cases h1
     rotate_left
     · rw [he] at h1;injection h1 with h1;cases h1
     · obtain ⟨g',h2,h3,h4⟩:=h.new k cs' T' (was hki hk) hf;rw [h2];rw [hv] at hg;exact k86
   · by_cases hki:k=i
     · subst hki;rw [other hji he] at hg;rw [hdi,put_at a d v hda];rcases hdid with ⟨h1,_⟩ | ⟨cs2,T2,h1,hv,hw⟩ | ⟨p,h1,_,_⟩
       · rw [hf] at h1;injection h1 with h1;cases h1
       rotate_left
       · rw [hf] at h1;injection h1 with h1;cases h1
       · obtain ⟨g',h2,h3,h4⟩:=h.new j cs T (was hji hj) he;rw [h2] at hg;rw [hv];exact k86
     · rw [other hji he] at hg;rw [other hki hf];exact h.ne j k cs T cs' T' g hne (was hji hj) (was hki hk) he hf hg
end
def okOps (md:Region.Mode) (ops:Array Oper) (ds:List Nat):Bool :=
 (List.range ops.size).all (fun j=>match ops[j]? with
  | some o=>if j<ds.length then decide (o.dst=some (ds.getD j 0)) && o.guard.isNone && o.after.all (fun e=>!Region.binds md e || decide (e.on<j))
    else (List.range ds.length).all (fun i=>waits md ops i ops.size j)
  | none=>false) && decide (ds.length≤ops.size)
def deps (md:Region.Mode) (o:Oper):List Nat:=(o.after.toList.filter (Region.binds md)).map (·.on)
def mark (n m:Nat):Array Bool:=((List.range n).map (fun i=>decide (i<m))).toArray
theorem rg_run {P:Program} {md:Region.Mode} {ops:Array Oper} {Q:Exit→Act→World→Prop} {w0:World} {a0:Act} {ef:List Eff} {ds:List Nat} (hok:okOps md ops ds=true) (hst:Stays ef) (hnd:ds.Nodup) (hlen:ef.length=ds.length) (hsz:∀ d∈ds,d<a0.tmps.size)
  (hop:∀ i d o,ds[i]?=some d→ops[i]?=some o→∀ (listed:Array Bool) (a:Act) (w:World),Rg w0 a0 ef ds listed a w→(∀ j∈deps md o,listed.getD j false=true)→∀ K:Act→World→Prop,(∀ v w',Did ef i w v w'→K (a.put (some d) v) w')→Oper.wp P o a w K Q)
  (f:Nat) (hfin:∀ a w,Rg w0 a0 ef ds (mark ops.size ds.length) a w→wpAny P md ops Q f (mark ops.size ds.length) a w) :
  wpAny P md ops Q (ds.length+f) (Array.replicate ops.size false) a0 w0:=by
 simp only [okOps,Bool.and_eq_true,List.all_eq_true,List.mem_range,decide_eq_true_eq] at hok;obtain ⟨hok,hle⟩:=hok
 have first:∀ {j o},ops[j]?=some o→j<ds.length→o.dst=some (ds.getD j 0)∧o.guard=none∧∀ e∈o.after,Region.binds md e=true→e.on<j:=by
  intro j o ho hj;have h1:=hok j (Array.getElem?_eq_some_iff.1 ho).1;rw [ho] at h1;simp only [hj,if_true,Bool.and_eq_true,decide_eq_true_eq] at h1;refine ⟨h1.1.1,by simpa using h1.1.2,fun e he hb=>?_⟩;have h2:=Array.all_eq_true_iff_forall_mem.1 h1.2 e he;simpa [hb] using h2
 have later:∀ {j o},ops[j]?=some o→ds.length≤j→∀ i,i<ds.length→waits md ops i ops.size j=true:=by
  intro j o ho hj i hi;have h1:=hok j (Array.getElem?_eq_some_iff.1 ho).1;rw [ho] at h1;simp only [show ¬j<ds.length by omega,if_false,List.all_eq_true,List.mem_range] at h1;exact h1 i hi
 have key:∀ (n:Nat) (L:List Nat) (listed:Array Bool) (a:Act) (w:World),L.length=n→L.Nodup→(∀ i,i∈L↔i<ds.length∧listed.getD i false=false)→listed.size=ops.size→(∀ j,ds.length≤j→listed.getD j false=false)→Closed md ops listed→Rg w0 a0 ef ds listed a w→wpAny P md ops Q (n+f) listed a w:=by
  intro n;induction n with
  | zero =>
    intro L listed a w hL _ hmem hs hz hc hr;have hnil:L=[]:=List.eq_nil_of_length_eq_zero hL
    have he:listed=mark ops.size ds.length:=by
     apply Array.ext
     · simp [mark,hs]
     · intro i h1 h2;have h3:listed.getD i false=listed[i]:=by simp [Array.getD,h1]
       by_cases hi:i<ds.length
       · have h4 : listed.getD i false = true := by
          cases hg:listed.getD i false
          · have:=(hmem i).2 ⟨hi,hg⟩;rw [hnil] at this;simp at this
          · rfl
         rw [h3] at h4;simp [mark,hi,h4]
       · have h4:=hz i om;rw [h3] at h4;simp [mark,hi,h4]
    subst he;rw [Nat.zero_add];exact hfin a w hr
  | succ n ih =>
    intro L listed a w hL hndL hmem hs hz hc hr;rw [show n+1+f=(n+f)+1 by omega]
    have one:∀ i,i<ds.length→listed.getD i false=false→∃ j,j∈Region.ready md ops listed:=by
     intro i;induction i using Nat.strongRecOn with
     | ind i ihi =>
       intro hi hl;have ho:∃ o,ops[i]?=some o:=⟨ops[i]'(by omega),Array.getElem?_eq_getElem _⟩
       obtain ⟨o,ho⟩:=ho;by_cases hall:∀ e∈o.after,Region.binds md e=true→listed.getD e.on false=true
       · refine ⟨i,mem_ready.2 ⟨?_,o,ho,hall⟩⟩;have h1:i<listed.size:=om;simp [Array.getD,h1] at hl ⊢;exact hl
       · have h1 : ∃ e, e ∈ o.after ∧ Region.binds md e = true ∧ listed.getD e.on false = false := by
          apply Classical.byContradiction;intro hno;apply hall;intro e he hb;cases hg:listed.getD e.on false
          · exact absurd ⟨e,he,hb,hg⟩ hno
          · rfl
         obtain ⟨e,he,hb,hg⟩:=h1;have h2:=(first ho hi).2.2 e he hb;exact ihi e.on h2 om hg
    have hne:∃ i,i∈L:=by
     cases L with
     | nil=>simp at hL
     | cons x t=>exact ⟨x,by simp⟩
    obtain ⟨i0,hi0⟩:=hne;have hi0':=(hmem i0).1 hi0;refine ⟨fun h0=>?_,fun j hj=>?_⟩
    · obtain ⟨j,hj⟩:=one i0 hi0'.1 hi0'.2;rw [h0] at hj;simp at hj
    · obtain ⟨hju,o,ho,hall⟩:=mem_ready.1 hj;have hjs:j<listed.size:=by have:=(Array.getElem?_eq_some_iff.1 ho).1;omega
      have hjl:j<ds.length:=by
       rcases Nat.lt_or_ge j ds.length with h | h
       · exact h
       · exfalso;have hw:=later ho h i0 hi0'.1
         -- what it waits for has come up
         have h1:listed.getD i0 false=true:=by
          cases hf:ops.size with
          | zero=>rw [hf] at hw;simp [waits] at hw
          | succ m =>
            rw [hf] at hw;unfold waits at hw;rw [ho] at hw;obtain ⟨e,he,hb⟩:=Array.any_eq_true'.1 hw;simp only [Bool.and_eq_true,Bool.or_eq_true,beq_iff_eq] at hb;have h2:=hall e he hb.1;rcases hb.2 with h3 | h3
            · rw [←h3];exact h2
            · exact waits_listed hc m e.on h3 h2
         rw [hi0'.2] at h1;cases h1
      have hjf:listed.getD j false=false:=by
       simp [Array.getD,hjs] at hju ⊢;exact hju
      have hdj:ds[j]?=some (ds.getD j 0):=by simp [List.getD,hjl]
      obtain ⟨f1,f2,_⟩:=first ho hjl
      refine wpOp_step ho (fun K' hK=>?_);rw [if_pos (by unfold Region.wanted;rw [f2])];refine hop j _ o hdj ho listed a w hr (fun k hk=>?_) K' (fun v w' hd=>?_)
      · obtain ⟨e,he,rfl⟩:=List.mem_map.1 hk;rw [List.mem_filter] at he;exact hall e (by simpa using he.1) he.2
      have hr2:=hr.step hst hnd hlen hdj (hsz _ (List.mem_of_getElem? hdj)) hjf hjs hd;refine hK _ _ (ih (L.erase j) _ _ _ ?_ (hndL.erase j) (fun i=>?_) (by simp [hs]) (fun k hk=>?_) (closed_set hc hj) hr2)
      · rw [List.length_erase_of_mem ((hmem j).2 ⟨hjl,hjf⟩),hL];rfl
      · rw [hndL.mem_erase_iff,hmem i];constructor
        · rintro ⟨h1,h2,h3⟩;exact ⟨h2,by rw [getD_set_ne false (Ne.symm h1)];exact h3⟩
        · rintro ⟨h2,h3⟩
          have h1:i≠j:=by
           rintro rfl;simp [Array.getD,hjs] at h3
          rw [getD_set_ne false (Ne.symm h1)] at h3;exact ⟨h1,h2,h3⟩
      · rw [getD_set_ne false om];exact hz k hk
 have hb0:∀ j,(Array.replicate ops.size false).getD j false=false:=fun j=>by
  by_cases h:j<ops.size<;>simp [Array.getD,h]
 refine key ds.length (List.range ds.length) _ a0 w0 (by simp) List.nodup_range (fun i=>?_) (by simp) (fun j _=>hb0 j) (fun j o _ hj=>?_) ⟨Below.refl _ _,rfl,rfl,fun _ _=>rfl,fun j v hj=>?_,fun j cs T hj=>?_,fun j p hj=>?_,fun j k cs T cs' T' g _ hj=>?_⟩
 · rw [List.mem_range,hb0];simp
 · rw [hb0] at hj;cases hj
 · rw [hb0] at hj;cases hj
 · rw [hb0] at hj;cases hj
 · rw [hb0] at hj;cases hj
 · rw [hb0] at hj;cases hj
theorem arr_fold {ds:List Nat}:∀ {t t0:Array Value},t.size=t0.size→(∀ k,k∉ds→t.getD k undef=t0.getD k undef)→t=ds.foldl (fun b d=>b.setIfInBounds d (t.getD d undef)) t0:=by
 induction ds with
 | nil =>
   intro t t0 hs hk;apply Array.ext hs;intro i h1 h2;have h:=hk i (by simp);simpa [Array.getD,h1,h2] using h
 | cons d ds ih =>
   intro t t0 hs hk;rw [List.foldl_cons];refine ih (by simpa using hs) fun k hkd=>?_
   by_cases h:k=d
   · subst h;by_cases h1:k<t0.size
     · simp [Array.getD_eq_getD_getElem?,h1]
     · have h2:¬k<t.size:=om;simp [Array.getD_eq_getD_getElem?,h1,h2]
   · rw [hk k (by simp [h,hkd])];simp [Array.getD_eq_getD_getElem?,Array.getElem?_setIfInBounds_ne (Ne.symm h)]
theorem Rg.act {w0 w:World} {a0 a:Act} {ef:List Eff} {ds:List Nat} {listed:Array Bool} (h:Rg w0 a0 ef ds listed a w):a=⟨ds.foldl (fun b d=>b.setIfInBounds d (a.tmps.getD d undef)) a0.tmps,a0.defers⟩:=by
 have h1:=arr_fold h.sz h.keep;have h2:=h.df;cases a;simp only at h1 h2;rw [h2]
 congr 1
theorem Sb.add {w W0 W:World} {l:List (Nat×Array Value×TypeId)} {rs:List (Option Addr×Nat×Nat×Nat)} {g:Nat} {cs:Array Value} {T:TypeId} (h:Sb w l rs W0) (hb:Below W0.heap.size W0 W) (hg:W0.heap.size≤g) (hk:W.heap[g]?=some (.cells cs T (0,0))):Sb w (l++[(g,cs,T)]) rs W:=by
 have hn:=h.next hb
 refine ⟨fun x hx=>?_,fun x hx=>?_,fun i j x y hi hj hij=>?_,hn.tr,fun r hr x hx h0 a ha=>?_,hn.bel⟩
 · rcases List.mem_append.1 hx with h1 | h1
   · exact hn.k x h1
   · obtain rfl:x=_:=by simpa using h1
     exact hk
 · rcases List.mem_append.1 hx with h1 | h1
   · exact h.lo x h1
   · obtain rfl:x=_:=by simpa using h1
     exact Nat.le_trans h.bel.size hg
 · have key : ∀ {i x}, (l ++ [(g, cs, T)])[i]? = some x → (i < l.length ∧ l[i]? = some x) ∨ (i = l.length ∧ x.1 = g) := by
    intro i x hi;rcases Nat.lt_trichotomy i l.length with h1 | h1 | h1
    · rw [List.getElem?_append_left h1] at hi;exact .inl ⟨h1,hi⟩
    · exact k103
    · rw [List.getElem?_append_right om] at hi;exact k122
   exact k68
 · rcases List.mem_append.1 hx with h1 | h1
   · exact h.ap r hr x h1 h0 a ha
   · obtain rfl:x=_:=by simpa using h1
     have h2:=(h.tr r hr).block_lt h0 ha;show a.block≠g;omega
theorem Sb.add2 {w W0 W:World} {l:List (Nat×Array Value×TypeId)} {rs:List (Option Addr×Nat×Nat×Nat)} {g g':Nat} {cs cs':Array Value} {T T':TypeId} (h:Sb w l rs W0) (hb:Below W0.heap.size W0 W) (hg:W0.heap.size≤g) (hk:W.heap[g]?=some (.cells cs T (0,0))) (hg':W0.heap.size≤g') (hk':W.heap[g']?=some (.cells cs' T' (0,0))) (hne:g≠g'):Sb w (l++[(g,cs,T),(g',cs',T')]) rs W:=by
 have h1:=h.add hb hg hk;have h2:=h.add hb hg' hk';refine ⟨fun x hx=>?_,fun x hx=>?_,fun i j x y hi hj hij=>?_,h1.tr,fun r hr x hx=>?_,h1.bel⟩
 · rcases List.mem_append.1 hx with h3 | h3
   · exact h1.k x (by simp [h3])
   · rcases (by simpa using h3:x=_∨x=_) with rfl | rfl
     · exact h1.k _ (by simp)
     · exact h2.k _ (by simp)
 · rcases List.mem_append.1 hx with h3 | h3
   · exact h1.lo x (by simp [h3])
   · rcases (by simpa using h3:x=_∨x=_) with rfl | rfl
     · exact h1.lo _ (by simp)
     · exact h2.lo _ (by simp)
 · have key : ∀ {i x}, (l ++ [(g, cs, T), (g', cs', T')])[i]? = some x → (i < l.length ∧ l[i]? = some x) ∨ (i = l.length ∧ x.1 = g) ∨ (i = l.length + 1 ∧ x.1 = g') := by
    intro i x hi;rcases Nat.lt_or_ge i l.length with h3 | h3
    · rw [List.getElem?_append_left h3] at hi;exact .inl ⟨h3,hi⟩
    · rw [List.getElem?_append_right h3] at hi;rcases Nat.lt_trichotomy (i-l.length) 1 with h4 | h4 | h4
      · rw [show i-l.length=0 by omega] at hi;simp at hi;exact .inr (.inl ⟨om,by rw [←hi]⟩)
      · rw [h4] at hi;simp at hi;exact .inr (.inr ⟨om,by rw [←hi]⟩)
      · obtain ⟨m,hm⟩:∃ m,i-l.length=m+2:=⟨i-l.length-2,om⟩
        rw [hm] at hi;simp at hi
   have lo:∀ {i:Nat} {x:Nat×Array Value×TypeId},l[i]?=some x→x.1<W0.heap.size:=fun hi=>h.lt (List.mem_of_getElem? hi)
   rcases key hi with ⟨h3,h4⟩ | ⟨h3,h4⟩ | ⟨h3,h4⟩<;>rcases key hj with ⟨h5,h6⟩ | ⟨h5,h6⟩ | ⟨h5,h6⟩
   · exact h.ne i j x y h4 h6 hij
   · have:=lo h4;omega
   · have:=lo h4;omega
   · have:=lo h6;omega
   · omega
   · omega
   · have:=lo h6;omega
   · omega
   · omega
 · rcases List.mem_append.1 hx with h3 | h3
   · exact h1.ap r hr x (by simp [h3])
   · rcases (by simpa using h3:x=_∨x=_) with rfl | rfl
     · exact h1.ap r hr _ (by simp)
     · exact h2.ap r hr _ (by simp)
theorem stays_none {ef:List Eff} (h:∀ e∈ef,∀ p,e≠.rel p):Stays ef:=fun _ p he=>absurd rfl (h _ (List.mem_of_getElem? he) p)
def Fine:Eff→Prop
 | .rel p=>∀ v w w',p v w→Below w.heap.size w w'→p v w'
 | _=>True
theorem stays_of {ef:List Eff} (h:∀ e∈ef,Fine e):Stays ef:=fun _ _ he=>h _ (List.mem_of_getElem? he)
def NoInt (cs:Array Value):Prop:=∀ (j:Nat) (k:IntKind) (n:Int),cs[j]?≠some (.int k n)
theorem row_apart {W:World} {A:Option Addr} {n c V g:Nat} {cs:Array Value} {T:TypeId} (ht:Tr W A n c V) (hk:W.heap[g]?=some (.cells cs T (0,0))) (hno:NoInt cs) (hn:0<n) (a:Addr) (ha:A=some a):a.block≠g:=by
 intro e;obtain ⟨g',o,e',_,hc⟩:=ht.dg.rd hn;rw [ha] at e'
 injection e' with e'
 subst e';have h1:=hc 0 hn;have e2:g'=g:=e;subst e2;simp only [World.cell?,hk] at h1;exact hno _ _ _ h1
theorem Sb.rows {w W:World} {l:List (Nat×Array Value×TypeId)} {rs:List (Option Addr×Nat×Nat×Nat)} (h:Sb w l rs W) (rs2:List (Option Addr×Nat×Nat×Nat)) (ht:∀ r∈rs2,Tr W r.1 r.2.1 r.2.2.1 r.2.2.2) (hno:∀ x∈l,NoInt x.2.1):Sb w l (rs++rs2) W :=
 ⟨h.k,h.lo,h.ne,fun r hr=>(List.mem_append.1 hr).elim (h.tr r) (ht r),fun r hr x hx h0 a ha=>(List.mem_append.1 hr).elim (fun h1=>h.ap r h1 x hx h0 a ha) (fun h1=>row_apart (ht r h1) (h.k x hx) (hno x hx) h0 a ha),h.bel⟩
end Go.Proofs.YtpnokfgplnmjpaaGreatDoor
namespace Go.Proofs.YtpnokfgplnmjpaaGreatDoor
open Go.RowKit
attribute [local go_sem ↓] Go.wp_at_zero Go.wp_at_succ
theorem rq_int {x:Int} {b:Bool} {m:ByteArray} (h:enc x=.agg #[.bool b,.string m]):Rq (x:Rat) b m ⟨#[]⟩:=⟨by rw [Rat.num_intCast];exact h,by rw [Rat.den_intCast,dm_one]⟩
theorem divInt_1 (x:Int):Rat.divInt x 1=(x:Rat):=by
 rw [show (1:Int)=((1:Nat):Int) from rfl,Rat.divInt_ofNat];exact Rat.mkRat_one x
theorem rFromInt_f {x:Int} {b:Bool} {m:ByteArray} (hx:enc x=.agg #[.bool b,.string m]) (x1:-9223372036854775808≤x) (x2:x≤9223372036854775807) (w:World) :
  Calls prog 73 #[.int .i64 x] w (RetB w (.agg #[.bool b,.string m,.bool false,.string ⟨#[]⟩])):=by
 have HX:=hid hx;have KR:=hid (Bq.new w #[.bool false,.string ⟨#[]⟩,.bool false,.string ⟨#[]⟩] 25);have HB:=hid (below_new w (.cells #[.bool false,.string ⟨#[]⟩,.bool false,.string ⟨#[]⟩] 25));clear hx;go_enter Tryz.func73,Tryz.ntmps73;go_wp2_with fail
 refine (fromInt_any x x1 x2 _).mono ?_;rintro e w1 ⟨rfl,hb1⟩;rw [HX.out];have K3:=hid (KR.out.next hb1);have B3:=hid (below_step HB.out (Nat.le_refl _) hb1);obtain ⟨t0,t1,t2,t3⟩:=blk4 K3.out.k;obtain ⟨f0,f1,f2,f3⟩:=fro4 K3.out.k;clear hb1;go_wp2
 exact bodyPost_ret (v:=.agg #[.bool b,.string m,.bool false,.string ⟨#[]⟩]) (by simp [results,Tryz.results73,go_sem,t0,t1,t2,t3]) rfl ⟨rfl,below_set4 B3.out (Nat.le_refl _) _ _ _ _⟩
theorem canon_form {b:Bool} {m:ByteArray} (h:canonB b m=true):∃ x,enc x=.agg #[.bool b,.string m]:=by
 refine ⟨ival b m,(enc_eq ⟨?_,?_⟩ rfl).symm⟩
 · intro h0;unfold canonB at h;rw [dif_pos h0] at h;simpa using h
 · intro h0;unfold canonB at h;rw [dif_neg om] at h;simpa using h
theorem canon_yes {x:Int} {b:Bool} {m:ByteArray} (h:enc x=.agg #[.bool b,.string m]):canonB b m=true:=by
 have h1:=canon_enc h;unfold checkV at h1;cases hc:canonB b m
 · rw [hc] at h1;cases h1
 · rfl
theorem isInt_any (neg:Bool) (s:ByteArray) (w:World) :
  Calls prog 110 #[.agg #[.bool neg,.string s]] w (RetB w (.bool (canonB neg s))):=by
 by_cases h:0<s.size
 · have hv:canonB neg s=((s[0]'h).toNat != 0):=by unfold canonB;rw [dif_pos h]
   have he:=empty_no h;rw [hv];clear hv;have HB:=hid (below_new w (.cells #[.bool neg,.string s] 23));go_enter Tryz.func110,Tryz.ntmps110;go_wp2
   go_ret
   refine ⟨?_,HB.out⟩;have hb:(((s[0]'h).toNat:Int) != 0)=((s[0]'h).toNat != 0):=by rw [Bool.eq_iff_iff];simp
   exact congrArg (fun b=>Ending.returned (.bool b)) hb
 · have hv:canonB neg s=!neg:=by unfold canonB;rw [dif_neg h]
   have he:=empty_yes h;have h0:s.size=0:=om;rw [hv];clear hv;have HB:=hid (below_new w (.cells #[.bool neg,.string s] 23));go_enter Tryz.func110,Tryz.ntmps110;go_wp2
   go_ret
   exact ⟨rfl,HB.out⟩
theorem rmake_f {x y:Int} {b1 b2 b3:Bool} {m1 m2 m3 k3:ByteArray} (hx:enc x=.agg #[.bool b1,.string m1]) (hy:enc y=.agg #[.bool b2,.string m2]) (hq:Rq (Rat.divInt x y) b3 m3 k3) (h0:y≠0) (s1:m1.size≤1000000) (s2:m2.size≤1000000) (w:World) :
  Calls prog 103 #[.agg #[.bool b1,.string m1],.agg #[.bool b2,.string m2]] w (RetB w (.agg #[.bool b3,.string m3,.bool false,.string k3])):=by
 have vx:bval m1=x.natAbs:=by rw [(enc_parts hx).2,bval_mag]
 have vy:bval m2=y.natAbs:=by rw [(enc_parts hy).2,bval_mag]
 have hmk:=rmake b1 b2 m1 m2 s1 s2 (by rw [vy];omega) w;rw [vx,vy,(enc_parts hx).1,(enc_parts hy).1,mk_divInt x y h0,←(enc_parts hx).1,←(enc_parts hy).1] at hmk;refine hmk.mono ?_;rintro e w3 ⟨b4,m4,k4,rfl,hq4,hb3⟩;obtain ⟨rfl,rfl,rfl⟩:=hq.inj hq4;exact ⟨rfl,hb3⟩
def RetF2 (w:World) (b:Bool) (N D:Nat) (e:Ending) (w':World):Prop :=
 ∃ A n c B m d,e=.returned (.agg #[.bool b,.slice A n c,.slice B m d])∧Tr w' A n c N∧Tr w' B m d D∧Below w.heap.size w w'∧(∀ a,A=some a→w.heap.size≤a.block)∧(∀ a,B=some a→w.heap.size≤a.block)
theorem rof2 {q:Rat} {b:Bool} {m k:ByteArray} (h:Rq q b m k) (hm:m.size≤1000000) (hk:k.size≤1000000) (w:World) :
  Calls prog 119 #[.agg #[.bool b,.string m,.bool false,.string k]] w (RetF2 w b q.num.natAbs q.den):=by
 have HB:=hid h.bval;have KK:=hid (Kb.start w #[.bool b,.string m,.bool false,.string k] #[.bool false,.slice none 0 0,.slice none 0 0] 25 110);have HD1:=hid (fun V=>rdigits b m V om);have HD2:=hid (fun V=>rdigits false k V om);by_cases hden:q.den=1
 · have hk1:=h.den1 hden;have hb0:Go.Proofs.YtpnokfgplnmjpaaGreatDoor.bval k=0:=by rw [hk1];rfl
   have HB0:=hid hb0;have HDEN:=hid hden;clear h hden hk1 hb0;go_enter Tryz.func119,Tryz.ntmps119;go_wp2_with fail
   refine (HD2.out _).mono ?_;rw [HB0.out];rintro e w1 ⟨A1,n1,c1,rfl,ht1,hb1,_⟩;have hn1:n1=0:=by rw [ht1.ln,nd_zero]
   subst hn1;have K1:=hid (KK.out.next hb1);have K2:=hid ((K1.out.next ((Below.refl _ _).alloc (Nat.le_refl _) (.cells #[.int .i64 1] 3))).drew);have T1:=hid (tr_one w1);clear ht1 hb1;obtain ⟨p0,p1,p2,p3⟩:=blk4 K2.out.k1;go_wp2_with fail
   go_region_held3 (fun w'=>w'.cell? ⟨w.heap.size,0,none⟩=some (.bool b)∧w'.cell? ⟨w.heap.size,1,none⟩=some (.string m))
    (first
     | exact ⟨q0,q1⟩
     | exact ⟨p0,p1⟩
     | go_keep)
    (first
     | (go_at_call 112;(with_reducible refine (HD1.out _).mono ?_);rw [HB.out];rintro e w3 ⟨A3,n3,c3,rfl,ht3,hb3,hf3⟩;have K3:=hid (K2.out.next hb3);have T3:=hid ht3;have T4:=hid (T1.out.drew.below hb3);obtain ⟨q0,q1,q2,q3⟩:=blk4 K3.out.k1;obtain ⟨s0,s1,s2,f0,f1,f2⟩:=blk3 K3.out.k2))
   have HF:=hid hf3;have HS1:=hid K1.out.sz;have HS2:=hid K2.out.sz;clear ht3 hb3 hf3;go_wp2
   refine bodyPost_ret (v:=.agg #[.bool b,.slice A3 n3 c3,.slice (some ⟨w1.heap.size,0,none⟩) 1 1]) (by simp [results,Tryz.results119,go_sem,s0,s1,s2]) rfl ⟨A3,n3,c3,_,1,1,rfl,T3.out.set3 (fun a ha=>?_) _ _ _,?_,below_set3 K3.out.bel om _ _ _,fun a ha=>by have h1:=HF.out a ha;have h2:=HS2.out;omega,fun a ha=>by injection ha with ha;subst ha;have h1:=HS1.out;show _≤w1.heap.size;omega⟩
   · have h1:=HF.out a ha;have h2:=HS2.out;omega
   · rw [HDEN.out];exact T4.out.set3 (fun a ha=>by injection ha with ha;subst ha;have:=HS1.out;show w1.heap.size≠_;omega) _ _ _
 · have hb0:Go.Proofs.YtpnokfgplnmjpaaGreatDoor.bval k=q.den:=by rw [h.den2 hden,bval_mag]
   have HB0:=hid hb0;have HP:=hid q.den_pos;clear h hden hb0;go_enter Tryz.func119,Tryz.ntmps119;go_wp2_with fail
   refine (HD2.out _).mono ?_;rw [HB0.out];rintro e w1 ⟨A1,n1,c1,rfl,ht1,hb1,hf1⟩;have hn1:0<n1:=by rw [ht1.ln];exact nd_pos HP.out
   have hne:((n1:Int)==0)=false:=by simp;omega
   have K1:=hid (KK.out.next hb1);have K2:=hid (K1.out.drew);have T1:=hid ht1;have HF1:=hid hf1;have HS0:=hid KK.out.sz;clear ht1 hb1 hf1;obtain ⟨p0,p1,p2,p3⟩:=blk4 K2.out.k1;go_wp2_with fail
   clear hne
   go_region_held3 (fun w'=>w'.cell? ⟨w.heap.size,0,none⟩=some (.bool b)∧w'.cell? ⟨w.heap.size,1,none⟩=some (.string m))
    (first
     | exact ⟨q0,q1⟩
     | exact ⟨p0,p1⟩
     | go_keep)
    (first
     | (go_at_call 112;(with_reducible refine (HD1.out _).mono ?_);rw [HB.out];rintro e w3 ⟨A3,n3,c3,rfl,ht3,hb3,hf3⟩;have K3:=hid (K2.out.next hb3);have T3:=hid ht3;have T4:=hid (T1.out.drew.below hb3);obtain ⟨q0,q1,q2,q3⟩:=blk4 K3.out.k1;obtain ⟨s0,s1,s2,f0,f1,f2⟩:=blk3 K3.out.k2))
   have HF:=hid hf3;have HS2:=hid K2.out.sz;clear ht3 hb3 hf3;go_wp2
   refine bodyPost_ret (v:=.agg #[.bool b,.slice A3 n3 c3,.slice A1 n1 c1]) (by simp [results,Tryz.results119,go_sem,s0,s1,s2]) rfl ⟨A3,n3,c3,A1,n1,c1,rfl,T3.out.set3 (fun a ha=>?_) _ _ _,T4.out.set3 (fun a ha=>?_) _ _ _,below_set3 K3.out.bel om _ _ _,fun a ha=>by have h1:=HF.out a ha;have h2:=HS2.out;omega,fun a ha=>by have h1:=HF1.out a ha;have h2:=HS0.out;omega⟩
   · have h1:=HF.out a ha;have h2:=HS2.out;omega
   · have h1:=HF1.out a ha;have h2:=HS0.out;omega
theorem rSign_f {q:Rat} {b:Bool} {m k:ByteArray} (h:Rq q b m k) (w:World):Calls prog 28 #[.agg #[.bool b,.string m,.bool false,.string k]] w (RetB w (.int .i64 q.num.sign)):=by
 have HB:=hid (below_new w (.cells #[.bool b,.string m,.bool false,.string k] 25));obtain ⟨e1,e2⟩:=h.mag;rcases Int.lt_trichotomy q.num 0 with h0 | h0 | h0
 · have hb:b=true:=by rw [e1];exact decide_eq_true h0
   have hne:=toList_ne (l:=[]) (show m≠⟨#[]⟩ from by rw [e2];exact mag_no_nil om);have hem:m.toList.isEmpty=false:=by rw [List.isEmpty_eq_false_iff];exact hne
   rw [Int.sign_eq_neg_one_of_neg h0];subst hb;clear h e1 e2 h0;exact k90
 · have hm:m=⟨#[]⟩:=by rw [e2,h0];exact mag_nil
   have hl:m.toList=[]:=by rw [hm,ByteArray.toList_eq]
   have hem:m.toList.isEmpty=true:=by rw [hl];rfl
   rw [h0];clear h e1 e2 h0 hm;exact k90
 · have hb:b=false:=by rw [e1];exact decide_eq_false om
   have hne:=toList_ne (l:=[]) (show m≠⟨#[]⟩ from by rw [e2];exact mag_no_nil om);have hem:m.toList.isEmpty=false:=by rw [List.isEmpty_eq_false_iff];exact hne
   rw [Int.sign_eq_one_of_pos h0];subst hb;clear h e1 e2 h0;exact k90
def FracP (b:Bool) (N D:Nat) (v:Value) (w:World):Prop:=∃ A n c B m d,v=.agg #[.bool b,.slice A n c,.slice B m d]∧Tr w A n c N∧Tr w B m d D
theorem fine_frac (b:Bool) (N D:Nat):Fine (.rel (FracP b N D)):=fun _ _ _ ⟨A,n,c,B,m,d,h,ht,hu⟩ hb=>⟨A,n,c,B,m,d,h,ht.below hb,hu.below hb⟩
theorem Rq.turned {q r:Rat} {b1 b2:Bool} {m1 m2 k1 k2:ByteArray} (h:Rq q b1 m1 k1) (g:Rq r b2 m2 k2) (e:r.num.natAbs=q.num.natAbs) (d:r.den=q.den):m2=m1∧k1=k2:=by
 refine ⟨by rw [g.mag.2,h.mag.2,e],?_⟩;by_cases hd:q.den=1
 · rw [h.den1 hd,g.den1 (d ▸ hd)]
 · rw [h.den2 hd,g.den2 (d ▸ hd),d]
theorem rNeg_f {q:Rat} {b b2:Bool} {m k m2 k2:ByteArray} (h:Rq q b m k) (g:Rq (-q) b2 m2 k2) (w:World):Calls prog 49 #[.agg #[.bool b,.string m,.bool false,.string k]] w (RetB w (.agg #[.bool b2,.string m2,.bool false,.string k2])):=by
 obtain ⟨rfl,rfl⟩:=h.turned g (by rw [Rat.neg_num,Int.natAbs_neg]) (Rat.neg_den q);obtain ⟨e1,e2⟩:=h.mag;obtain ⟨f1,-⟩:=g.mag;rw [Rat.neg_num] at f1;rcases Int.lt_trichotomy q.num 0 with h0 | h0 | h0
 · have hb:b=true:=by rw [e1];exact decide_eq_true h0
   have hc:b2=false:=by rw [f1];exact decide_eq_false om
   subst hb hc;clear h g e1 e2 f1 h0;exact k75
 · have hb:b=false:=by rw [e1,h0];rfl
   have hc:b2=false:=by rw [f1,h0];rfl
   have hm:m2=⟨#[]⟩:=by rw [e2,h0];exact mag_nil
   have hl:m2.toList=[]:=by rw [hm,ByteArray.toList_eq]
   have hem:m2.toList.isEmpty=true:=by rw [hl];rfl
   subst hb hc;clear h g e1 e2 f1 h0 hm;exact k75
 · have hb:b=false:=by rw [e1];exact decide_eq_false om
   have hc:b2=true:=by rw [f1];exact decide_eq_true om
   have hne:=toList_ne (l:=[]) (show m2≠⟨#[]⟩ from by rw [e2];exact mag_no_nil om);have hem:m2.toList.isEmpty=false:=by rw [List.isEmpty_eq_false_iff];exact hne
   subst hb hc;clear h g e1 e2 f1 h0;go_enter Tryz.func49,Tryz.ntmps49;go_wp2
   exact bodyPost_ret (v:=.agg #[.bool true,.string m2,.bool false,.string k]) (by simp [results,Tryz.results49,go_sem]) rfl ⟨rfl,(((Sb.start w).new _ _).new _ _).bel⟩
theorem ratNeg_f {q:Rat} {b b2:Bool} {m k m2 k2:ByteArray} (h:Rq q b m k) (g:Rq (-q) b2 m2 k2) (w:World):Calls prog 80 #[.agg #[.bool b,.string m,.bool false,.string k]] w (RetB w (.agg #[.bool b2,.string m2,.bool false,.string k2])):=by
 obtain ⟨-,rfl⟩:=h.turned g (by rw [Rat.neg_num,Int.natAbs_neg]) (Rat.neg_den q);have hz:=g.num;rw [Rat.neg_num] at hz;have HS:=hid (fun V=>negate_f h.num hz V);have X:=hid (((Sb.start w).new #[.bool b,.string m,.bool false,.string k] 25).new #[.bool false,.string ⟨#[]⟩,.bool false,.string ⟨#[]⟩] 25);have X:=hid (X.out.pick [0,1] [(w.heap.size,#[.bool b,.string m,.bool false,.string k],25),(w.heap.size+1,#[.bool false,.string ⟨#[]⟩,.bool false,.string ⟨#[]⟩],25)] [] (by simp) dc (by simp));clear h g hz;go_enter Tryz.func80,Tryz.ntmps80;go_upto_region 1 with fail
 refine wp_region_late (S:=fun w'=>(w'.cell? ⟨w.heap.size,0,none⟩=some (.bool b)∧w'.cell? ⟨w.heap.size,1,none⟩=some (.string m)∧w'.cell? ⟨w.heap.size,2,none⟩=some (.bool false)∧w'.cell? ⟨w.heap.size,3,none⟩=some (.string k))) (L:=[]) (by kernel_rfl) ?_;have X:=hid X.out.drew;obtain ⟨V0,hV⟩:=wexi X.out;rw [←hV] at X ⊢;clear hV;refine tk (i:=0) (oi:=⟨some 3,_,_,_,_,_⟩) (v:=_) rfl (by kernel_rfl) ix (X.out.c4 (i:=0) rfl) sl ?_;try simp only [Act.put,seti,set0,setS]
 refine tk (i:=1) (oi:=⟨some 4,_,_,_,_,_⟩) (v:=_) rfl (by kernel_rfl) ix (X.out.c4 (i:=0) rfl) sl ?_;try simp only [Act.put,seti,set0,setS]
 refine tk (i:=3) (oi:=⟨some 6,_,_,_,_,_⟩) (v:=_) rfl (by kernel_rfl) ix (X.out.c4 (i:=0) rfl) sl ?_;try simp only [Act.put,seti,set0,setS]
 refine tk (i:=4) (oi:=⟨some 7,_,_,_,_,_⟩) (v:=_) rfl (by kernel_rfl) ix (X.out.c4 (i:=0) rfl) sl ?_;try simp only [Act.put,seti,set0,setS]
 refine wpLate_one (i:=2) (o:=⟨some 5,_,_,_,_,_⟩) (by kernel_rfl) rfl (fun K hK=>?_);go_simp
 (go_at_call 107;refine (HS.out _).mono ?_;rintro e u1 ⟨rfl,hb9⟩;have X:=hid (X.out.next hb9);clear hb9)
 try go_wp2_with fail
 refine hK.out _ _ (Or.inr (fun _=>X.out.c4 (i:=0) rfl)) ?_;clear hK K;try simp only [Act.put,seti,set0,setS]
 refine tk (i:=5) (oi:=⟨some 8,_,_,_,_,_⟩) (v:=_) rfl (by kernel_rfl) ix (X.out.c4 (i:=0) rfl) sl ?_;try simp only [Act.put,seti,set0,setS]
 refine wpLate_one (i:=6) (o:=⟨none,_,_,_,_,_⟩) (by kernel_rfl) rfl (fun K hK=>?_);obtain ⟨x0,x1,x2,x3⟩:=X.out.c4 (i:=1) rfl;obtain ⟨y0,y1,y2,y3⟩:=X.out.f4 (i:=1) rfl;have X:=hid (X.out.set4 (i:=1) rfl (.bool b2) (.string m2) (.bool false) (.string k));go_simp;refine hK.out _ _ (Or.inr (fun _=>X.out.c4 (i:=0) rfl)) ?_;clear hK K x0 x1 x2 x3 y0 y1 y2 y3;try simp only [Act.put,seti,set0,setS]
 obtain ⟨W2,hV⟩:=wexi X.out;rw [←hV] at X ⊢;clear hV;refine wpLate_done (by kernel_rfl) ?_ _;go_wp2
 obtain ⟨p0,p1,p2,p3⟩:=X.out.c4 (i:=1) rfl;exact bodyPost_ret (v:=.agg #[.bool b2,.string m2,.bool false,.string k]) (by simp [results,Tryz.results80,go_sem,p0,p1,p2,p3]) rfl ⟨rfl,X.out.bel⟩
end Go.Proofs.YtpnokfgplnmjpaaGreatDoor
namespace Go.Proofs.YtpnokfgplnmjpaaGreatDoor
open Go.RowKit
def cellsAt (W:World) (g:Nat):Nat→List Value→Prop
 | _,[]=>True
 | k,v :: vs=>W.cell? ⟨g,k,none⟩=some v∧W.frozen? ⟨g,k,none⟩=false∧cellsAt W g (k+1) vs
def Facts (W:World):List (Nat×Array Value×TypeId)→Prop
 | []=>True
 | x :: l=>cellsAt W x.1 0 x.2.1.toList∧Facts W l
theorem cellsAt_of {W:World} {g:Nat} {cs:Array Value} {T:TypeId} (h:W.heap[g]?=some (.cells cs T (0,0))):∀ (l:List Value) (k:Nat),(∀ j,l[j]?=cs[k+j]?)→cellsAt W g k l
 | [],_,_=>trivial
 | v :: vs,k,e=>by
   have h0:=e 0;simp at h0;refine ⟨by simp [World.cell?,h,←h0],by simp [World.frozen?,h,←h0],cellsAt_of h vs (k+1) fun j=>?_⟩;have h1:=e (j+1);simp at h1;rw [h1]
   congr 1
   omega
theorem facts_of {W:World}:∀ {l:List (Nat×Array Value×TypeId)},(∀ x∈l,W.heap[x.1]?=some (.cells x.2.1 x.2.2 (0,0)))→Facts W l
 | [],_=>trivial
 | x :: l,h=>⟨cellsAt_of (h x (by simp)) _ 0 (fun j=>by simp),facts_of fun y hy=>h y (by simp [hy])⟩
section
variable {w W:World} {l:List (Nat×Array Value×TypeId)} {rs:List (Option Addr×Nat×Nat×Nat)} {g:Nat} {T:TypeId}
theorem Sb.facts (h:Sb w l rs W):Facts W l:=facts_of h.k
theorem Sb.take (h:Sb w l rs W) (n:Nat):Sb w (l.take n) [] W:=by
 refine ⟨fun x hx=>h.k x (List.mem_of_mem_take hx),fun x hx=>h.lo x (List.mem_of_mem_take hx),fun i j x y hi hj hij=>?_,fun _ h=>by simp at h,fun _ h=>by simp at h,h.bel⟩;rw [List.getElem?_take] at hi hj
 split at hi
 · split at hj
   · exact h.ne i j x y hi hj hij
   · cases hj
 · cases hi
theorem lexi (_:Sb w l rs W):∃ L,L=l:=⟨_,rfl⟩
theorem Sb.bare (h:Sb w l rs W):Sb w l [] W:=by
 have h1:=h.take l.length;rw [List.take_length] at h1;exact h1
theorem Sb.init {l2:List (Nat×Array Value×TypeId)} (h:Sb w (l++l2) rs W):Sb w l [] W:=by
 have h1:=h.take l.length;rw [List.take_left] at h1;exact h1
theorem Sb.init2 {l2 l3:List (Nat×Array Value×TypeId)} (h:Sb w ((l++l2)++l3) rs W):Sb w l [] W:=h.init.init
theorem gn {M:World→Prop} (X:Sb w l rs W) (h:∀ V,Sb w l rs V→M V):M W:=h _ X
theorem Sb.plus (h:Sb w l rs W) (cs:Array Value) (T:TypeId):Sb w (l++[(W.heap.size,cs,T)]) rs (W.alloc (.cells cs T)):=h.new cs T
theorem an {M:World→Prop} (X:Sb w l rs W) {cs:Array Value} {T:TypeId} (h:∀ V,Sb w (l++[(W.heap.size,cs,T)]) rs V→M V):M (W.alloc (.cells cs T)):=h _ (X.new cs T)
theorem kxO {a':Act} {K C:Act→World→Prop} {c:World→Prop} (hK:Shut (∀ a' w',c w'→C a' w'→K a' w')) (X:Sb w l rs W) (hc:∀ V,Sb w l rs V→c V) (h:∀ V,Sb w l rs V→C a' V):K a' W:=hK.out _ _ (hc _ X) (h _ X)
theorem ka {a':Act} {K C:Act→World→Prop} {c:World→Prop} (hK:Shut (∀ a' w',c w'→C a' w'→K a' w')) (X:Sb w l rs W) {cs:Array Value} {T:TypeId} (hc:∀ V,Sb w (l++[(W.heap.size,cs,T)]) rs V→c V) (h:∀ V,Sb w (l++[(W.heap.size,cs,T)]) rs V→C a' V):K a' (W.alloc (.cells cs T)):=hK.out _ _ (hc _ (X.new cs T)) (h _ (X.new cs T))
theorem new_st2 (X:Sb w l rs W) (i:Nat) {x0 x1:Value} (hl:l[i]?=some (g,#[x0,x1],T)) {y0 y1:Value}:Sb w (l.set i (g,#[y0,y1],T)) rs ((W.setCell ⟨g,0,none⟩ y0).setCell ⟨g,1,none⟩ y1):=X.set2 hl y0 y1
theorem st2 {M:World→Prop} (X:Sb w l rs W) (i:Nat) {x0 x1:Value} (hl:l[i]?=some (g,#[x0,x1],T)) {y0 y1:Value} (h:∀ V,Sb w (l.set i (g,#[y0,y1],T)) rs V→M V):M ((W.setCell ⟨g,0,none⟩ y0).setCell ⟨g,1,none⟩ y1):=h _ (new_st2 X i hl)
end
def pureB:Op→Bool
 | .call _=>false
 | .alloc _=>false
 | .box ..=>false
 | .buildSlice ..=>false
 | .store ..=>false
 | .load ..=>false
 | _=>true
def loadB:Op→Bool
 | .load ..=>true
 | _=>false
def ids:List Nat:=[0,1,2,3,4,5,6,7,8,9,10,11,12,13,14,15,16,17,18,19,20,21,22,23,24,25,26,27,28,29,30,31,32,33,34,35,36,37,38,39,40,41,42,43,44,45,46,47,48,49,50,51,52,53,54,55,56,57,58,59,60,61,62,63,64]
def atB:List Bool→Nat→Bool
 | [],_=>false
 | b :: _,0=>b
 | _ :: bs,n+1=>atB bs n
def backB (ls:List Bool):List Edge→Bool
 | []=>true
 | e :: es=>match Region.binds .any e with
   | false=>backB ls es
   | true=>match atB ls e.on with
     | true=>backB ls es
     | false=>false
def rdyL (ls:List Bool):List Oper→List Bool→List Nat→List Nat
 | o :: os,b :: bs,k :: ks=>match b with
   | true=>rdyL ls os bs ks
   | false=>match backB ls o.after.toList with
     | true=>k :: rdyL ls os bs ks
     | false=>rdyL ls os bs ks
 | _,_,_=>[]
def pkL (p:Oper→Bool) (ls:List Bool):List Oper→List Bool→List Nat→Option Nat
 | o :: os,b :: bs,k :: ks=>match b with
   | true=>pkL p ls os bs ks
   | false=>match p o with
     | false=>pkL p ls os bs ks
     | true=>match backB ls o.after.toList with
       | true=>some k
       | false=>pkL p ls os bs ks
 | _,_,_=>none
def rdy (ops:Array Oper) (listed:Array Bool):List Nat:=rdyL listed.toList ops.toList listed.toList ids
def pkP (ops:Array Oper) (listed:Array Bool):Option Nat:=pkL (fun o=>pureB o.op) listed.toList ops.toList listed.toList ids
def pkL' (ops:Array Oper) (listed:Array Bool):Option Nat:=pkL (fun o=>loadB o.op) listed.toList ops.toList listed.toList ids
def pkG (ops:Array Oper) (listed:Array Bool):Option Nat:=pkL (fun o=>o.guard.isSome) listed.toList ops.toList listed.toList ids
def takeF (md:Region.Mode) (ops:Array Oper) (listed:Array Bool) (i:Nat):Bool :=
 Region.noSelect ops && Region.free md ops listed i && (Region.ready md ops listed).contains i && closedB md ops listed
def stB:List Oper→List Nat→List Nat
 | o :: os,k :: ks=>match o.op with
   | .store ..=>k :: stB os ks
   | _=>stB os ks
 | _,_=>[]
section
variable {P:Program} {ops:Array Oper} {Q:Exit→Act→World→Prop} {md:Region.Mode} {S:World→Prop} {L:List Nat} {i j k:Nat} {oi o o' o'':Oper} {v:Value} {fuel:Nat} {listed:Array Bool} {a:Act} {w:World}
theorem tkN (_hf:pkL' ops listed=some i) (hi:ops[i]?=some oi) (hb:takeB md ops L listed i=true)
 (hQ:∀ c a w,Q (.panic c) (a.put oi.dst v) w→Q (.panic c) a w) (hS:S w) (hy:YieldsIf P ops S oi v a)
 (h:wpLate P md ops Q S L fuel (listed.setIfInBounds i true) (a.put oi.dst v) w):wpLate P md ops Q S L (fuel+1) listed a w:=tk hi hb hQ hS hy h
theorem fits {v:Value} (hb:takeF md ops listed i=true):Region.noSelect ops=true∧Region.free md ops listed i=true∧(Region.ready md ops listed).contains i=true∧closedB md ops listed=true:=by
 simp only [takeF,Bool.and_eq_true] at hb;exact ⟨hb.1.1.1,hb.1.1.2,hb.1.2,hb.2⟩
theorem tkF (_hf:pkP ops listed=some i) (hi:ops[i]?=some oi) (hb:takeF md ops listed i=true)
  (hQ:∀ c a w,Q (.panic c) (a.put oi.dst v) w→Q (.panic c) a w) (hy:YieldsIf P ops (fun _=>True) oi v a)
  (h:wpLate P md ops Q S L fuel (listed.setIfInBounds i true) (a.put oi.dst v) w):wpLate P md ops Q S L (fuel+1) listed a w:=by
 obtain ⟨h1,h2,h3,h4⟩:=fits (v:=v) hb;exact wpLate_free hi h1 h2 h3 h4 hQ hy h
theorem tkG (_hf:pkG ops listed=some i) (hi:ops[i]?=some oi) (hb:takeF md ops listed i=true)
  (hQ:∀ c a w,Q (.panic c) (a.put oi.dst undef) w→Q (.panic c) a w) (hy:Region.wanted oi (yielded ops a.tmps)=false)
  (h:wpLate P md ops Q S L fuel (listed.setIfInBounds i true) (a.put oi.dst undef) w):wpLate P md ops Q S L (fuel+1) listed a w:=by
 obtain ⟨h1,h2,h3,h4⟩:=fits (v:=undef) hb;exact wpLate_free hi h1 h2 h3 h4 hQ (Or.inr ⟨hy,rfl⟩) h
theorem one (_hf:rdy ops listed=[i]) (ho:ops[i]?=some o) (hr:Region.ready md ops listed=[i])
 (h:∀ K':Act→World→Prop,Shut (∀ a' w',(L.contains i=true∨(S w→S w'))→wpLate P md ops Q S L fuel (listed.setIfInBounds i true) a' w'→K' a' w')→if Region.wanted o (yielded ops a.tmps)=true then Oper.wp P o a w K' Q else K' (a.put o.dst undef) w) :
 wpLate P md ops Q S L (fuel+1) listed a w:=wpLate_one hr ho h
theorem two (_hf:rdy ops listed=[i,j]) (ho:ops[i]?=some o) (ho':ops[j]?=some o') (hr:Region.ready md ops listed=[i,j])
 (h:∀ K':Act→World→Prop,Shut (∀ a' w',(L.contains i=true∨(S w→S w'))→wpLate P md ops Q S L fuel (listed.setIfInBounds i true) a' w'→K' a' w')→if Region.wanted o (yielded ops a.tmps)=true then Oper.wp P o a w K' Q else K' (a.put o.dst undef) w)
 (h':∀ K':Act→World→Prop,Shut (∀ a' w',(L.contains j=true∨(S w→S w'))→wpLate P md ops Q S L fuel (listed.setIfInBounds j true) a' w'→K' a' w')→if Region.wanted o' (yielded ops a.tmps)=true then Oper.wp P o' a w K' Q else K' (a.put o'.dst undef) w) :
 wpLate P md ops Q S L (fuel+1) listed a w:=wpLate_two hr ho ho' h h'
theorem three (_hf:rdy ops listed=[i,j,k]) (ho:ops[i]?=some o) (ho':ops[j]?=some o') (ho'':ops[k]?=some o'') (hr:Region.ready md ops listed=[i,j,k])
  (h:∀ K':Act→World→Prop,Shut (∀ a' w',(L.contains i=true∨(S w→S w'))→wpLate P md ops Q S L fuel (listed.setIfInBounds i true) a' w'→K' a' w')→if Region.wanted o (yielded ops a.tmps)=true then Oper.wp P o a w K' Q else K' (a.put o.dst undef) w)
  (h':∀ K':Act→World→Prop,Shut (∀ a' w',(L.contains j=true∨(S w→S w'))→wpLate P md ops Q S L fuel (listed.setIfInBounds j true) a' w'→K' a' w')→if Region.wanted o' (yielded ops a.tmps)=true then Oper.wp P o' a w K' Q else K' (a.put o'.dst undef) w)
  (h'':∀ K':Act→World→Prop,Shut (∀ a' w',(L.contains k=true∨(S w→S w'))→wpLate P md ops Q S L fuel (listed.setIfInBounds k true) a' w'→K' a' w')→if Region.wanted o'' (yielded ops a.tmps)=true then Oper.wp P o'' a w K' Q else K' (a.put o''.dst undef) w) :
  wpLate P md ops Q S L (fuel+1) listed a w:=by
 refine ⟨fun h0=>(by rw [h0] at hr;cases hr),fun m hm=>?_⟩;rw [hr] at hm;rcases (by simpa using hm:m=i∨m=j∨m=k) with rfl | rfl | rfl
 · exact k74
 · exact wpOp_step ho' (fun K' hK=>h' K' (fun a w hS hW=>hK a w ⟨hS,hW⟩))
 · exact wpOp_step ho'' (fun K' hK=>h'' K' (fun a w hS hW=>hK a w ⟨hS,hW⟩))
end
theorem done {P:Program} {ops:Array Oper} {Q:Exit→Act→World→Prop} {md:Region.Mode} {S:World→Prop} {L:List Nat} {listed:Array Bool} {a:Act} {w:World} (_hf:rdy ops listed=[]) (hr:Region.ready md ops listed=[]) (h:Q .normal a w) (n:Nat):wpLate P md ops Q S L n listed a w:=wpLate_done hr h n
end Go.Proofs.YtpnokfgplnmjpaaGreatDoor
namespace Go.Proofs.YtpnokfgplnmjpaaGreatDoor
open Go.RowKit
attribute [local go_sem ↓] Go.wp_at_zero Go.wp_at_succ
def fracQ (num den:Int) (u v:Nat):Rat:=if den=0 then mkRat (sgn (decide (num<0) != decide ((1:Int)<0)) (num.natAbs*256^(u%9))) ((1:Int).natAbs*256^(v%9)) else mkRat (sgn (decide (num<0) != decide (den<0)) (num.natAbs*256^(u%9))) (den.natAbs*256^(v%9))
theorem frac_small (num den:Int) (u v:Nat) (x1:-9223372036854775808≤num) (x2:num≤9223372036854775807) (y1:-9223372036854775808≤den) (y2:den≤9223372036854775807):(fracQ num den u v).num.natAbs<256^16∧(fracQ num den u v).den<256^16:=by
 have p:∀ (x:Int) (r:Nat),-9223372036854775808≤x→x≤9223372036854775807→x.natAbs*256^(r%9)<256^16:=by
  intro x r h1 h2;have h3:256^(r%9)≤256^8:=Nat.pow_le_pow_right om om;have h4:x.natAbs*256^(r%9)≤9223372036854775808*256^8:=Nat.mul_le_mul om h3;exact Nat.lt_of_le_of_lt h4 dc
 have q:∀ (x:Int) (r:Nat),x≠0→0<x.natAbs*256^(r%9):=fun x r h=>Nat.mul_pos om (Nat.pow_pos om)
 unfold fracQ
 split
 · exact mk_small (p num u x1 x2) (p 1 v om om) (q 1 v om)
 · rename_i h
   exact mk_small (p num u x1 x2) (p den v y1 y2) (q den v h)
end Go.Proofs.YtpnokfgplnmjpaaGreatDoor
namespace Go.Proofs.YtpnokfgplnmjpaaGreatDoor
def Sz (n:Nat) (q:Rat):Prop:=q.num.natAbs<256^n∧q.den<256^n
theorem mkRat_le (x:Int) {d:Nat} (hd:d≠0):(mkRat x d).num.natAbs≤x.natAbs∧(mkRat x d).den≤d:=by
 obtain ⟨h1,h2⟩:=mkRat_parts x hd;rw [h1,h2];refine ⟨?_,Nat.div_le_self _ _⟩;rw [Int.natAbs_ediv_of_dvd (int_gcd_dvd x d),Int.natAbs_natCast];exact Nat.div_le_self _ _
theorem Sz.mul {n m:Nat} {p q:Rat} (hp:Sz n p) (hq:Sz m q):Sz (n+m) (p*q):=by
 rw [Rat.mul_def'];obtain ⟨h1,h2⟩:=mkRat_le (p.num*q.num) (d:=p.den*q.den) (Nat.mul_ne_zero p.den_nz q.den_nz);unfold Sz;rw [Nat.pow_add];refine ⟨Nat.lt_of_le_of_lt h1 ?_,Nat.lt_of_le_of_lt h2 (Nat.mul_lt_mul'' hp.2 hq.2)⟩;rw [Int.natAbs_mul];exact Nat.mul_lt_mul'' hp.1 hq.1
theorem Sz.add {n m:Nat} {p q:Rat} (hp:Sz n p) (hq:Sz m q):Sz (n+m+1) (p+q):=by
 rw [Rat.add_def'];obtain ⟨h1,h2⟩:=mkRat_le (p.num*q.den+q.num*p.den) (d:=p.den*q.den) (Nat.mul_ne_zero p.den_nz q.den_nz);have h3:=Int.natAbs_add_le (p.num*(q.den:Int)) (q.num*(p.den:Int));rw [Int.natAbs_mul,Int.natAbs_mul,Int.natAbs_natCast,Int.natAbs_natCast] at h3;have h4:p.num.natAbs*q.den<256^n*256^m:=Nat.mul_lt_mul'' hp.1 hq.2;have h5:q.num.natAbs*p.den<256^m*256^n:=Nat.mul_lt_mul'' hq.1 hp.2;have h6:p.den*q.den<256^n*256^m:=Nat.mul_lt_mul'' hp.2 hq.2;rw [Nat.mul_comm (256^m)] at h5;unfold Sz;rw [Nat.pow_succ,Nat.pow_add];omega
theorem Sz.m {n:Nat} {q:Rat} (h:Sz n q) {b:Bool} {m k:ByteArray} (hq:Rq q b m k) (hn:n≤10000):m.size≤10000∧(mag q.den).size≤10000:=by
 refine ⟨?_,Nat.le_trans (mag_size_le h.2) hn⟩;rw [hq.mag.2];exact Nat.le_trans (mag_size_le h.1) hn
theorem Sz.minus {n:Nat} {q:Rat} (h:Sz n q):Sz n (-q):=by
 unfold Sz;rw [Rat.neg_num,Rat.neg_den,Int.natAbs_neg];exact h
end Go.Proofs.YtpnokfgplnmjpaaGreatDoor
namespace Go.Proofs.YtpnokfgplnmjpaaGreatDoor
open Go.RowKit
inductive At {α:Type}:List α→Nat→α→Prop
 | here {x:α} {l:List α}:At (x :: l) 0 x
 | there {x y:α} {l:List α} {i:Nat} (h:At l i x):At (y :: l) (i+1) x
theorem At.get {α:Type} {l:List α} {i:Nat} {x:α} (h:At l i x):l[i]?=some x:=by
 induction h with
 | here=>rfl
 | there _ ih=>simpa using ih
theorem At.left {α:Type} {l l':List α} {i:Nat} {x:α} (h:At l i x):At (l++l') i x:=by
 induction h with
 | here=>exact At.here
 | there _ ih=>exact At.there ih
theorem At.last {α:Type} {x:α}:∀ {l:List α},At (l++[x]) l.length x
 | []=>At.here
 | _ :: _=>At.there At.last
def puts (W:World) (g:Nat):Nat→List Value→World
 | _,[]=>W
 | k,y :: ys=>puts (W.setCell ⟨g,k,none⟩ y) g (k+1) ys
def sets (cs:Array Value):Nat→List Value→Array Value
 | _,[]=>cs
 | k,y :: ys=>sets (cs.setIfInBounds k y) (k+1) ys
theorem puts_at {g:Nat} {T:TypeId}:∀ (ys:List Value) (k:Nat) (cs:Array Value) (W:World),W.heap[g]?=some (.cells cs T (0,0))→(puts W g k ys).heap[g]?=some (.cells (sets cs k ys) T (0,0))
 | [],_,_,_,h=>h
 | y :: ys,k,cs,W,h=>puts_at ys (k+1) _ _ (by simp [World.setCell,Array.getElem?_modify,h])
theorem puts_oth {g:Nat}:∀ (ys:List Value) (k:Nat) (W:World) (j:Nat),j≠g→(puts W g k ys).heap[j]?=W.heap[j]?
 | [],_,_,_,_=>rfl
 | y :: ys,k,W,j,h=>(puts_oth ys (k+1) _ j h).trans (Below.heap_setCell W ⟨g,k,none⟩ y j h)
theorem puts_size {g:Nat}:∀ (ys:List Value) (k:Nat) (W:World),(puts W g k ys).heap.size=W.heap.size
 | [],_,_=>rfl
 | y :: ys,k,W=>(puts_size ys (k+1) _).trans (by simp [World.setCell])
theorem puts_below {B g:Nat} (hB:B≤g):∀ (ys:List Value) (k:Nat) (a W:World),Below B a W→Below B a (puts W g k ys)
 | [],_,_,_,h=>h
 | y :: ys,k,a,W,h=>puts_below hB ys (k+1) a _ (h.setCell (p:=⟨g,k,none⟩) hB y)
section
variable {w W:World} {l:List (Nat×Array Value×TypeId)} {rs:List (Option Addr×Nat×Nat×Nat)} {g:Nat} {T:TypeId}
theorem Sb.puts (h:Sb w l rs W) {i:Nat} {cs:Array Value} (hl:l[i]?=some (g,cs,T)) (ys:List Value) (he:sets cs 0 ys=ys.toArray):Sb w (l.set i (g,ys.toArray,T)) rs (puts W g 0 ys):=by
 have hm:=List.mem_of_getElem? hl;refine h.put hl ?_ (fun k hk=>puts_oth ys 0 W k hk) (Nat.le_of_eq (puts_size ys 0 W).symm) (puts_below (h.lo _ hm) ys 0 W W (Below.refl _ _));rw [←he];exact puts_at ys 0 cs W (h.k _ hm)
theorem Sb.init3 {l2 l3 l4:List (Nat×Array Value×TypeId)} (h:Sb w (((l++l2)++l3)++l4) rs W):Sb w l [] W:=h.init.init.init
theorem nf1 (X:Sb w l rs W) {i k:Nat} {xs:List Value} {y:Value} (hl:At l i (g,xs.toArray,T)):Sb w (l.set i (g,(xs.set k y).toArray,T)) rs (W.setCell ⟨g,k,none⟩ y):=by
 have hm:=List.mem_of_getElem? hl.get;refine X.put hl.get ?_ (fun j hj=>Below.heap_setCell W ⟨g,k,none⟩ y j hj) (Nat.le_of_eq (by simp [World.setCell])) ((Below.refl _ _).setCell (p:=⟨g,k,none⟩) (X.lo _ hm) y);have h:=X.k _ hm;simp [World.setCell,Array.getElem?_modify,h]
theorem sf1 {M:World→Prop} (X:Sb w l rs W) {i k:Nat} {xs:List Value} {y:Value} (hl:At l i (g,xs.toArray,T)) (h:∀ V,Sb w (l.set i (g,(xs.set k y).toArray,T)) rs V→M V):M (W.setCell ⟨g,k,none⟩ y):=h _ (nf1 X hl)
theorem kf1 {a':Act} {K C:Act→World→Prop} {c:World→Prop} (hK:Shut (∀ a' w',c w'→C a' w'→K a' w')) (X:Sb w l rs W) {i k:Nat} {xs:List Value} {y:Value} (hl:At l i (g,xs.toArray,T)) (hc:∀ V,Sb w (l.set i (g,(xs.set k y).toArray,T)) rs V→c V) (h:∀ V,Sb w (l.set i (g,(xs.set k y).toArray,T)) rs V→C a' V):K a' (W.setCell ⟨g,k,none⟩ y):=hK.out _ _ (hc _ (nf1 X hl)) (h _ (nf1 X hl))
theorem nf2 (X:Sb w l rs W) {i:Nat} {x0 x1 y0 y1:Value} (hl:At l i (g,#[x0,x1],T)):Sb w (l.set i (g,#[y0,y1],T)) rs ((W.setCell ⟨g,0,none⟩ y0).setCell ⟨g,1,none⟩ y1):=by have h1:=X.puts hl.get [y0,y1] (by simp [sets]);simp only [puts,Nat.reduceAdd] at h1;exact h1
theorem sf2 {M:World→Prop} (X:Sb w l rs W) {i:Nat} {x0 x1 y0 y1:Value} (hl:At l i (g,#[x0,x1],T)) (h:∀ V,Sb w (l.set i (g,#[y0,y1],T)) rs V→M V):M ((W.setCell ⟨g,0,none⟩ y0).setCell ⟨g,1,none⟩ y1):=h _ (nf2 X hl)
theorem kf2 {a':Act} {K C:Act→World→Prop} {c:World→Prop} (hK:Shut (∀ a' w',c w'→C a' w'→K a' w')) (X:Sb w l rs W) {i:Nat} {x0 x1 y0 y1:Value} (hl:At l i (g,#[x0,x1],T)) (hc:∀ V,Sb w (l.set i (g,#[y0,y1],T)) rs V→c V) (h:∀ V,Sb w (l.set i (g,#[y0,y1],T)) rs V→C a' V):K a' ((W.setCell ⟨g,0,none⟩ y0).setCell ⟨g,1,none⟩ y1):=hK.out _ _ (hc _ (nf2 X hl)) (h _ (nf2 X hl))
theorem nf4 (X:Sb w l rs W) {i:Nat} {x0 x1 x2 x3 y0 y1 y2 y3:Value} (hl:At l i (g,#[x0,x1,x2,x3],T)):Sb w (l.set i (g,#[y0,y1,y2,y3],T)) rs ((((W.setCell ⟨g,0,none⟩ y0).setCell ⟨g,1,none⟩ y1).setCell ⟨g,2,none⟩ y2).setCell ⟨g,3,none⟩ y3):=by have h1:=X.puts hl.get [y0,y1,y2,y3] (by simp [sets]);simp only [puts,Nat.reduceAdd] at h1;exact h1
theorem sf4 {M:World→Prop} (X:Sb w l rs W) {i:Nat} {x0 x1 x2 x3 y0 y1 y2 y3:Value} (hl:At l i (g,#[x0,x1,x2,x3],T)) (h:∀ V,Sb w (l.set i (g,#[y0,y1,y2,y3],T)) rs V→M V):M ((((W.setCell ⟨g,0,none⟩ y0).setCell ⟨g,1,none⟩ y1).setCell ⟨g,2,none⟩ y2).setCell ⟨g,3,none⟩ y3):=h _ (nf4 X hl)
theorem kf4 {a':Act} {K C:Act→World→Prop} {c:World→Prop} (hK:Shut (∀ a' w',c w'→C a' w'→K a' w')) (X:Sb w l rs W) {i:Nat} {x0 x1 x2 x3 y0 y1 y2 y3:Value} (hl:At l i (g,#[x0,x1,x2,x3],T)) (hc:∀ V,Sb w (l.set i (g,#[y0,y1,y2,y3],T)) rs V→c V) (h:∀ V,Sb w (l.set i (g,#[y0,y1,y2,y3],T)) rs V→C a' V):K a' ((((W.setCell ⟨g,0,none⟩ y0).setCell ⟨g,1,none⟩ y1).setCell ⟨g,2,none⟩ y2).setCell ⟨g,3,none⟩ y3):=hK.out _ _ (hc _ (nf4 X hl)) (h _ (nf4 X hl))
theorem nf9 (X:Sb w l rs W) {i:Nat} {x0 x1 x2 x3 x4 x5 x6 x7 x8 y0 y1 y2 y3 y4 y5 y6 y7 y8:Value} (hl:At l i (g,#[x0,x1,x2,x3,x4,x5,x6,x7,x8],T)):Sb w (l.set i (g,#[y0,y1,y2,y3,y4,y5,y6,y7,y8],T)) rs (((((((((W.setCell ⟨g,0,none⟩ y0).setCell ⟨g,1,none⟩ y1).setCell ⟨g,2,none⟩ y2).setCell ⟨g,3,none⟩ y3).setCell ⟨g,4,none⟩ y4).setCell ⟨g,5,none⟩ y5).setCell ⟨g,6,none⟩ y6).setCell ⟨g,7,none⟩ y7).setCell ⟨g,8,none⟩ y8):=by have h1:=X.puts hl.get [y0,y1,y2,y3,y4,y5,y6,y7,y8] (by simp [sets]);simp only [puts,Nat.reduceAdd] at h1;exact h1
theorem sf9 {M:World→Prop} (X:Sb w l rs W) {i:Nat} {x0 x1 x2 x3 x4 x5 x6 x7 x8 y0 y1 y2 y3 y4 y5 y6 y7 y8:Value} (hl:At l i (g,#[x0,x1,x2,x3,x4,x5,x6,x7,x8],T)) (h:∀ V,Sb w (l.set i (g,#[y0,y1,y2,y3,y4,y5,y6,y7,y8],T)) rs V→M V):M (((((((((W.setCell ⟨g,0,none⟩ y0).setCell ⟨g,1,none⟩ y1).setCell ⟨g,2,none⟩ y2).setCell ⟨g,3,none⟩ y3).setCell ⟨g,4,none⟩ y4).setCell ⟨g,5,none⟩ y5).setCell ⟨g,6,none⟩ y6).setCell ⟨g,7,none⟩ y7).setCell ⟨g,8,none⟩ y8):=h _ (nf9 X hl)
theorem kf9 {a':Act} {K C:Act→World→Prop} {c:World→Prop} (hK:Shut (∀ a' w',c w'→C a' w'→K a' w')) (X:Sb w l rs W) {i:Nat} {x0 x1 x2 x3 x4 x5 x6 x7 x8 y0 y1 y2 y3 y4 y5 y6 y7 y8:Value} (hl:At l i (g,#[x0,x1,x2,x3,x4,x5,x6,x7,x8],T)) (hc:∀ V,Sb w (l.set i (g,#[y0,y1,y2,y3,y4,y5,y6,y7,y8],T)) rs V→c V) (h:∀ V,Sb w (l.set i (g,#[y0,y1,y2,y3,y4,y5,y6,y7,y8],T)) rs V→C a' V):K a' (((((((((W.setCell ⟨g,0,none⟩ y0).setCell ⟨g,1,none⟩ y1).setCell ⟨g,2,none⟩ y2).setCell ⟨g,3,none⟩ y3).setCell ⟨g,4,none⟩ y4).setCell ⟨g,5,none⟩ y5).setCell ⟨g,6,none⟩ y6).setCell ⟨g,7,none⟩ y7).setCell ⟨g,8,none⟩ y8):=hK.out _ _ (hc _ (nf9 X hl)) (h _ (nf9 X hl))
theorem nf12 (X:Sb w l rs W) {i:Nat} {x0 x1 x2 x3 x4 x5 x6 x7 x8 x9 x10 x11 y0 y1 y2 y3 y4 y5 y6 y7 y8 y9 y10 y11:Value} (hl:At l i (g,#[x0,x1,x2,x3,x4,x5,x6,x7,x8,x9,x10,x11],T)):Sb w (l.set i (g,#[y0,y1,y2,y3,y4,y5,y6,y7,y8,y9,y10,y11],T)) rs ((((((((((((W.setCell ⟨g,0,none⟩ y0).setCell ⟨g,1,none⟩ y1).setCell ⟨g,2,none⟩ y2).setCell ⟨g,3,none⟩ y3).setCell ⟨g,4,none⟩ y4).setCell ⟨g,5,none⟩ y5).setCell ⟨g,6,none⟩ y6).setCell ⟨g,7,none⟩ y7).setCell ⟨g,8,none⟩ y8).setCell ⟨g,9,none⟩ y9).setCell ⟨g,10,none⟩ y10).setCell ⟨g,11,none⟩ y11):=by have h1:=X.puts hl.get [y0,y1,y2,y3,y4,y5,y6,y7,y8,y9,y10,y11] (by simp [sets]);simp only [puts,Nat.reduceAdd] at h1;exact h1
theorem sf12 {M:World→Prop} (X:Sb w l rs W) {i:Nat} {x0 x1 x2 x3 x4 x5 x6 x7 x8 x9 x10 x11 y0 y1 y2 y3 y4 y5 y6 y7 y8 y9 y10 y11:Value} (hl:At l i (g,#[x0,x1,x2,x3,x4,x5,x6,x7,x8,x9,x10,x11],T)) (h:∀ V,Sb w (l.set i (g,#[y0,y1,y2,y3,y4,y5,y6,y7,y8,y9,y10,y11],T)) rs V→M V):M ((((((((((((W.setCell ⟨g,0,none⟩ y0).setCell ⟨g,1,none⟩ y1).setCell ⟨g,2,none⟩ y2).setCell ⟨g,3,none⟩ y3).setCell ⟨g,4,none⟩ y4).setCell ⟨g,5,none⟩ y5).setCell ⟨g,6,none⟩ y6).setCell ⟨g,7,none⟩ y7).setCell ⟨g,8,none⟩ y8).setCell ⟨g,9,none⟩ y9).setCell ⟨g,10,none⟩ y10).setCell ⟨g,11,none⟩ y11):=h _ (nf12 X hl)
theorem kf12 {a':Act} {K C:Act→World→Prop} {c:World→Prop} (hK:Shut (∀ a' w',c w'→C a' w'→K a' w')) (X:Sb w l rs W) {i:Nat} {x0 x1 x2 x3 x4 x5 x6 x7 x8 x9 x10 x11 y0 y1 y2 y3 y4 y5 y6 y7 y8 y9 y10 y11:Value} (hl:At l i (g,#[x0,x1,x2,x3,x4,x5,x6,x7,x8,x9,x10,x11],T)) (hc:∀ V,Sb w (l.set i (g,#[y0,y1,y2,y3,y4,y5,y6,y7,y8,y9,y10,y11],T)) rs V→c V) (h:∀ V,Sb w (l.set i (g,#[y0,y1,y2,y3,y4,y5,y6,y7,y8,y9,y10,y11],T)) rs V→C a' V):K a' ((((((((((((W.setCell ⟨g,0,none⟩ y0).setCell ⟨g,1,none⟩ y1).setCell ⟨g,2,none⟩ y2).setCell ⟨g,3,none⟩ y3).setCell ⟨g,4,none⟩ y4).setCell ⟨g,5,none⟩ y5).setCell ⟨g,6,none⟩ y6).setCell ⟨g,7,none⟩ y7).setCell ⟨g,8,none⟩ y8).setCell ⟨g,9,none⟩ y9).setCell ⟨g,10,none⟩ y10).setCell ⟨g,11,none⟩ y11):=hK.out _ _ (hc _ (nf12 X hl)) (h _ (nf12 X hl))
theorem gs0 {M:World→Prop}  (h:∀ V,Sb w [] [] V→M V):M w:=h _ ((Sb.start w))
theorem gs1 {M:World→Prop} {c0:Array Value} {t0:TypeId} (h:∀ V,Sb w [(w.heap.size,c0,t0)] [] V→M V):M (w.alloc (.cells c0 t0)):=h _ (((Sb.start w).new c0 t0).pick [0] _ [] (by simp) dc (by simp))
theorem gs2 {M:World→Prop} {c0:Array Value} {t0:TypeId} {c1:Array Value} {t1:TypeId} (h:∀ V,Sb w [(w.heap.size,c0,t0),(w.heap.size+1,c1,t1)] [] V→M V):M ((w.alloc (.cells c0 t0)).alloc (.cells c1 t1)):=h _ ((((Sb.start w).new c0 t0).new c1 t1).pick [0,1] _ [] (by simp) dc (by simp))
theorem gs3 {M:World→Prop} {c0:Array Value} {t0:TypeId} {c1:Array Value} {t1:TypeId} {c2:Array Value} {t2:TypeId} (h:∀ V,Sb w [(w.heap.size,c0,t0),(w.heap.size+1,c1,t1),(w.heap.size+1+1,c2,t2)] [] V→M V):M (((w.alloc (.cells c0 t0)).alloc (.cells c1 t1)).alloc (.cells c2 t2)):=h _ (((((Sb.start w).new c0 t0).new c1 t1).new c2 t2).pick [0,1,2] _ [] (by simp) dc (by simp))
theorem gs4 {M:World→Prop} {c0:Array Value} {t0:TypeId} {c1:Array Value} {t1:TypeId} {c2:Array Value} {t2:TypeId} {c3:Array Value} {t3:TypeId} (h:∀ V,Sb w [(w.heap.size,c0,t0),(w.heap.size+1,c1,t1),(w.heap.size+1+1,c2,t2),(w.heap.size+1+1+1,c3,t3)] [] V→M V):M ((((w.alloc (.cells c0 t0)).alloc (.cells c1 t1)).alloc (.cells c2 t2)).alloc (.cells c3 t3)):=h _ ((((((Sb.start w).new c0 t0).new c1 t1).new c2 t2).new c3 t3).pick [0,1,2,3] _ [] (by simp) dc (by simp))
theorem gs5 {M:World→Prop} {c0:Array Value} {t0:TypeId} {c1:Array Value} {t1:TypeId} {c2:Array Value} {t2:TypeId} {c3:Array Value} {t3:TypeId} {c4:Array Value} {t4:TypeId} (h:∀ V,Sb w [(w.heap.size,c0,t0),(w.heap.size+1,c1,t1),(w.heap.size+1+1,c2,t2),(w.heap.size+1+1+1,c3,t3),(w.heap.size+1+1+1+1,c4,t4)] [] V→M V):M (((((w.alloc (.cells c0 t0)).alloc (.cells c1 t1)).alloc (.cells c2 t2)).alloc (.cells c3 t3)).alloc (.cells c4 t4)):=h _ (((((((Sb.start w).new c0 t0).new c1 t1).new c2 t2).new c3 t3).new c4 t4).pick [0,1,2,3,4] _ [] (by simp) dc (by simp))
theorem gs6 {M:World→Prop} {c0:Array Value} {t0:TypeId} {c1:Array Value} {t1:TypeId} {c2:Array Value} {t2:TypeId} {c3:Array Value} {t3:TypeId} {c4:Array Value} {t4:TypeId} {c5:Array Value} {t5:TypeId} (h:∀ V,Sb w [(w.heap.size,c0,t0),(w.heap.size+1,c1,t1),(w.heap.size+1+1,c2,t2),(w.heap.size+1+1+1,c3,t3),(w.heap.size+1+1+1+1,c4,t4),(w.heap.size+1+1+1+1+1,c5,t5)] [] V→M V):M ((((((w.alloc (.cells c0 t0)).alloc (.cells c1 t1)).alloc (.cells c2 t2)).alloc (.cells c3 t3)).alloc (.cells c4 t4)).alloc (.cells c5 t5)):=h _ ((((((((Sb.start w).new c0 t0).new c1 t1).new c2 t2).new c3 t3).new c4 t4).new c5 t5).pick [0,1,2,3,4,5] _ [] (by simp) dc (by simp))
end
theorem ke {w:World} (hE:Env w) {p:World→Prop} (h:∀ V,Env V→p V):Hid (∀ V,Below w.heap.size w V→p V):=hid fun V hb=>h V (hE.next hb)
theorem kn (w:World) {p:World→Prop} (h:∀ V,p V):Hid (∀ V,Below w.heap.size w V→p V):=hid fun V _=>h V
section
variable {P:Program} {ops:Array Oper} {Q:Exit→Act→World→Prop} {md:Region.Mode} {S:World→Prop} {L:List Nat} {i j k m:Nat} {o o1 o2 o3:Oper} {fuel:Nat} {listed:Array Bool} {a:Act} {w:World}
theorem four (_hf:rdy ops listed=[i,j,k,m]) (ho:ops[i]?=some o) (ho1:ops[j]?=some o1) (ho2:ops[k]?=some o2) (ho3:ops[m]?=some o3) (hr:Region.ready md ops listed=[i,j,k,m])
  (h:(∀ K':Act→World→Prop,Shut (∀ a' w',(L.contains i=true∨(S w→S w'))→wpLate P md ops Q S L fuel (listed.setIfInBounds i true) a' w'→K' a' w')→if Region.wanted o (yielded ops a.tmps)=true then Oper.wp P o a w K' Q else K' (a.put o.dst undef) w)) (h1:(∀ K':Act→World→Prop,Shut (∀ a' w',(L.contains j=true∨(S w→S w'))→wpLate P md ops Q S L fuel (listed.setIfInBounds j true) a' w'→K' a' w')→if Region.wanted o1 (yielded ops a.tmps)=true then Oper.wp P o1 a w K' Q else K' (a.put o1.dst undef) w)) (h2:(∀ K':Act→World→Prop,Shut (∀ a' w',(L.contains k=true∨(S w→S w'))→wpLate P md ops Q S L fuel (listed.setIfInBounds k true) a' w'→K' a' w')→if Region.wanted o2 (yielded ops a.tmps)=true then Oper.wp P o2 a w K' Q else K' (a.put o2.dst undef) w)) (h3:(∀ K':Act→World→Prop,Shut (∀ a' w',(L.contains m=true∨(S w→S w'))→wpLate P md ops Q S L fuel (listed.setIfInBounds m true) a' w'→K' a' w')→if Region.wanted o3 (yielded ops a.tmps)=true then Oper.wp P o3 a w K' Q else K' (a.put o3.dst undef) w)) :
  wpLate P md ops Q S L (fuel+1) listed a w:=by
 refine ⟨fun h0=>(by rw [h0] at hr;cases hr),fun n hn=>?_⟩;rw [hr] at hn;rcases (by simpa using hn:n=i∨n=j∨n=k∨n=m) with rfl | rfl | rfl | rfl
 · exact k74
 · exact wpOp_step ho1 (fun K' hK=>h1 K' (fun a w hS hW=>hK a w ⟨hS,hW⟩))
 · exact wpOp_step ho2 (fun K' hK=>h2 K' (fun a w hS hW=>hK a w ⟨hS,hW⟩))
 · exact wpOp_step ho3 (fun K' hK=>h3 K' (fun a w hS hW=>hK a w ⟨hS,hW⟩))
end
def ldB:List Oper→List Nat→List Nat
 | o :: os,k :: ks=>match o.op with
   | .load ..=>k :: ldB os ks
   | _=>ldB os ks
 | _,_=>[]
def stW (ops:Array Oper):List Nat:=(stB ops.toList ids).filter fun j=>(ldB ops.toList ids).all fun i=>waits .any ops i ops.size j
theorem late_inF {P:Program} {ops:Array Oper} {Q:Exit→Act→World→Prop} {id:Nat} {a:Act} {w W:World} {l:List (Nat×Array Value×TypeId)} {rs:List (Option Addr×Nat×Nat×Nat)} {L:List Nat} (X:Sb w l rs W) (_hL:stW ops=L) (hm:P.follows .mixedOrders=true)
 (h:∀ V,Sb w l rs V→wpLate P .any ops Q (fun V=>Sb w l [] V) L ops.size (Array.replicate ops.size false) a V):(Code.region id ops true).wp P Q a W:=wp_region_late hm (h _ X.drew)
theorem Sb.pre {w W:World} {l0 l:List (Nat×Array Value×TypeId)} {rs:List (Option Addr×Nat×Nat×Nat)} (h:Sb w l rs W) (t:List (Nat×Array Value×TypeId)) (e:l0++t=l):Sb w l0 [] W:=by
 subst e;exact h.init
theorem wk {p:Prop} (h:p:=by
 go_wp2_with (first
  | exact Z1.out | exact Z2.out | exact Z3.out | exact Z4.out | exact Z5.out | exact Z6.out
  | ((first | (((with_reducible refine (show Calls _ _ _ _ _ from ?_));first | (with_reducible refine (C1.out _ X.out.bel).mono ?_) | (with_reducible refine (C2.out _ X.out.bel).mono ?_) | (with_reducible refine (C3.out _ X.out.bel).mono ?_) | (with_reducible refine (C4.out _ X.out.bel).mono ?_) | (with_reducible refine (C5.out _ X.out.bel).mono ?_) | (with_reducible refine (C6.out _ X.out.bel).mono ?_) | (with_reducible refine (C7.out _ X.out.bel).mono ?_) | (with_reducible refine (C8.out _ X.out.bel).mono ?_) | (with_reducible refine (C9.out _ X.out.bel).mono ?_) | (with_reducible refine (C10.out _ X.out.bel).mono ?_) | (with_reducible refine (C11.out _ X.out.bel).mono ?_) | (with_reducible refine (C12.out _ X.out.bel).mono ?_) | (with_reducible refine (C13.out _ X.out.bel).mono ?_) | (with_reducible refine (C14.out _ X.out.bel).mono ?_) | (with_reducible refine (C15.out _ X.out.bel).mono ?_) | (with_reducible refine (C16.out _ X.out.bel).mono ?_) | (with_reducible refine (C17.out _ X.out.bel).mono ?_) | (with_reducible refine (C18.out _ X.out.bel).mono ?_) | (with_reducible refine (C19.out _ X.out.bel).mono ?_) | (with_reducible refine (C20.out _ X.out.bel).mono ?_) | (with_reducible refine (C1.out _ X.out.bel (by first | assumption | omega)).mono ?_) | (with_reducible refine (C2.out _ X.out.bel (by first | assumption | omega)).mono ?_) | (with_reducible refine (C3.out _ X.out.bel (by first | assumption | omega)).mono ?_) | (with_reducible refine (C4.out _ X.out.bel (by first | assumption | omega)).mono ?_) | (with_reducible refine (C5.out _ X.out.bel (by first | assumption | omega)).mono ?_) | (with_reducible refine (C6.out _ X.out.bel (by first | assumption | omega)).mono ?_) | (with_reducible refine (C7.out _ X.out.bel (by first | assumption | omega)).mono ?_) | (with_reducible refine (C8.out _ X.out.bel (by first | assumption | omega)).mono ?_) | (with_reducible refine (C9.out _ X.out.bel (by first | assumption | omega)).mono ?_) | (with_reducible refine (C10.out _ X.out.bel (by first | assumption | omega)).mono ?_) | (with_reducible refine (C11.out _ X.out.bel (by first | assumption | omega)).mono ?_) | (with_reducible refine (C12.out _ X.out.bel (by first | assumption | omega)).mono ?_) | (with_reducible refine (C13.out _ X.out.bel (by first | assumption | omega)).mono ?_) | (with_reducible refine (C14.out _ X.out.bel (by first | assumption | omega)).mono ?_) | (with_reducible refine (C15.out _ X.out.bel (by first | assumption | omega)).mono ?_) | (with_reducible refine (C16.out _ X.out.bel (by first | assumption | omega)).mono ?_) | (with_reducible refine (C17.out _ X.out.bel (by first | assumption | omega)).mono ?_) | (with_reducible refine (C18.out _ X.out.bel (by first | assumption | omega)).mono ?_) | (with_reducible refine (C19.out _ X.out.bel (by first | assumption | omega)).mono ?_) | (with_reducible refine (C20.out _ X.out.bel (by first | assumption | omega)).mono ?_));rintro e u ⟨rfl,hb9⟩;have X0:=X.out.next hb9;clear hb9) | (with_reducible refine an X.out (fun V X0=>?_)) | (with_reducible refine sf2 X.out (by repeat (with_reducible first | exact At.here | exact At.last | apply At.there | apply At.left)) (fun V X0=>?_)) | (with_reducible refine sf4 X.out (by repeat (with_reducible first | exact At.here | exact At.last | apply At.there | apply At.left)) (fun V X0=>?_)) | (with_reducible refine sf9 X.out (by repeat (with_reducible first | exact At.here | exact At.last | apply At.there | apply At.left)) (fun V X0=>?_)) | (with_reducible refine sf12 X.out (by repeat (with_reducible first | exact At.here | exact At.last | apply At.there | apply At.left)) (fun V X0=>?_)) | (with_reducible refine sf1 X.out (by repeat (with_reducible first | exact At.here | exact At.last | apply At.there | apply At.left)) (fun V X0=>?_)));(try simp only [List.set_cons_zero,List.set_cons_succ,List.cons_append,List.nil_append,List.length_cons,List.length_nil] at X0);replace X:=hid X0;clear X0;replace F:=X.out.facts;simp only [Facts,cellsAt,List.take_succ_cons,List.take_zero,Nat.reduceAdd,and_true,List.set_cons_succ,List.set_cons_zero,List.cons_append,List.nil_append] at F)
  | exact U1.out | exact U2.out | exact U3.out | exact U4.out | exact U5.out | exact U6.out
  | (with_reducible refine late_inF X.out rfl ?_ ?_
     kernel_rfl
     intro V X0;replace X:=hid X0;clear X0 F
     repeat' (first
      | ((first
        | refine tkF (oi:=⟨some _,_,_,_,_,_⟩) rfl rfl (by kernel_rfl) ix (Or.inl ⟨by rfl,by intro w' _;first | (go_simp;done) | (go_simp;with_reducible rfl)⟩) ?_
        | refine tkN (oi:=⟨some _,_,_,_,_,_⟩) rfl rfl (by decide +kernel) ix (by first | exact X.out.pre _ rfl | exact X.out.bare | exact X.out.init | exact X.out.init2 | exact X.out.init3) (Or.inl ⟨by rfl,by intro w' hSw;have F:=hSw.facts;simp only [Facts,cellsAt,List.take_succ_cons,List.take_zero,Nat.reduceAdd,and_true,List.set_cons_succ,List.set_cons_zero,List.cons_append,List.nil_append] at F;first | (go_simp;done) | (go_simp;with_reducible rfl)⟩) ?_
        | refine tkG (oi:=⟨_,_,_,_,_,_⟩) rfl rfl (by kernel_rfl) ix (by rfl) ?_)
         (try simp only [Act.put,seti,set0,setS]))
      | ((first | refine one (o := ⟨_, _, _, _, _, _⟩) rfl rfl (by kernel_rfl) (fun K hK => ?_) | refine two (o := ⟨_, _, _, _, _, _⟩) (o' := ⟨_, _, _, _, _, _⟩) rfl rfl rfl (by kernel_rfl) (fun K hK => ?_) (fun K hK => ?_) | refine three (o := ⟨_, _, _, _, _, _⟩) (o' := ⟨_, _, _, _, _, _⟩) (o'' := ⟨_, _, _, _, _, _⟩) rfl rfl rfl rfl (by kernel_rfl) (fun K hK => ?_) (fun K hK => ?_) (fun K hK => ?_) | refine four (o := ⟨_, _, _, _, _, _⟩) (o1 := ⟨_, _, _, _, _, _⟩) (o2 := ⟨_, _, _, _, _, _⟩) (o3 := ⟨_, _, _, _, _, _⟩) rfl rfl rfl rfl rfl (by kernel_rfl) (fun K hK => ?_) (fun K hK => ?_) (fun K hK => ?_) (fun K hK => ?_))
         all_goals (have F:=X.out.facts;simp only [Facts,cellsAt,List.take_succ_cons,List.take_zero,Nat.reduceAdd,and_true,List.set_cons_succ,List.set_cons_zero,List.cons_append,List.nil_append] at F;go_simp;clear F;first
          | exact Y1.out | exact Y2.out
          | (((with_reducible refine (show Calls _ _ _ _ _ from ?_));first | (with_reducible refine (C1.out _ X.out.bel).mono ?_) | (with_reducible refine (C2.out _ X.out.bel).mono ?_) | (with_reducible refine (C3.out _ X.out.bel).mono ?_) | (with_reducible refine (C4.out _ X.out.bel).mono ?_) | (with_reducible refine (C5.out _ X.out.bel).mono ?_) | (with_reducible refine (C6.out _ X.out.bel).mono ?_) | (with_reducible refine (C7.out _ X.out.bel).mono ?_) | (with_reducible refine (C8.out _ X.out.bel).mono ?_) | (with_reducible refine (C9.out _ X.out.bel).mono ?_) | (with_reducible refine (C10.out _ X.out.bel).mono ?_) | (with_reducible refine (C11.out _ X.out.bel).mono ?_) | (with_reducible refine (C12.out _ X.out.bel).mono ?_) | (with_reducible refine (C13.out _ X.out.bel).mono ?_) | (with_reducible refine (C14.out _ X.out.bel).mono ?_) | (with_reducible refine (C15.out _ X.out.bel).mono ?_) | (with_reducible refine (C16.out _ X.out.bel).mono ?_) | (with_reducible refine (C17.out _ X.out.bel).mono ?_) | (with_reducible refine (C18.out _ X.out.bel).mono ?_) | (with_reducible refine (C19.out _ X.out.bel).mono ?_) | (with_reducible refine (C20.out _ X.out.bel).mono ?_) | (with_reducible refine (C1.out _ X.out.bel (by first | assumption | omega)).mono ?_) | (with_reducible refine (C2.out _ X.out.bel (by first | assumption | omega)).mono ?_) | (with_reducible refine (C3.out _ X.out.bel (by first | assumption | omega)).mono ?_) | (with_reducible refine (C4.out _ X.out.bel (by first | assumption | omega)).mono ?_) | (with_reducible refine (C5.out _ X.out.bel (by first | assumption | omega)).mono ?_) | (with_reducible refine (C6.out _ X.out.bel (by first | assumption | omega)).mono ?_) | (with_reducible refine (C7.out _ X.out.bel (by first | assumption | omega)).mono ?_) | (with_reducible refine (C8.out _ X.out.bel (by first | assumption | omega)).mono ?_) | (with_reducible refine (C9.out _ X.out.bel (by first | assumption | omega)).mono ?_) | (with_reducible refine (C10.out _ X.out.bel (by first | assumption | omega)).mono ?_) | (with_reducible refine (C11.out _ X.out.bel (by first | assumption | omega)).mono ?_) | (with_reducible refine (C12.out _ X.out.bel (by first | assumption | omega)).mono ?_) | (with_reducible refine (C13.out _ X.out.bel (by first | assumption | omega)).mono ?_) | (with_reducible refine (C14.out _ X.out.bel (by first | assumption | omega)).mono ?_) | (with_reducible refine (C15.out _ X.out.bel (by first | assumption | omega)).mono ?_) | (with_reducible refine (C16.out _ X.out.bel (by first | assumption | omega)).mono ?_) | (with_reducible refine (C17.out _ X.out.bel (by first | assumption | omega)).mono ?_) | (with_reducible refine (C18.out _ X.out.bel (by first | assumption | omega)).mono ?_) | (with_reducible refine (C19.out _ X.out.bel (by first | assumption | omega)).mono ?_) | (with_reducible refine (C20.out _ X.out.bel (by first | assumption | omega)).mono ?_));rintro e u ⟨rfl,hb9⟩;(try go_wp2_with fail);refine kxO hK (X.out.next hb9) ?_ ?_;(intro V X;first | exact Or.inr fun _=>X.bare | exact Or.inr fun _=>X.init | exact Or.inr fun _=>X.pre _ rfl | exact Or.inl (by decide +kernel) | exact Or.inr fun _=>X.init2 | exact Or.inr fun _=>X.init3);intro V X0;clear hb9)
          | ((with_reducible refine ka hK X.out ?_ ?_);(intro V X;first | exact Or.inr fun _=>X.bare | exact Or.inr fun _=>X.init | exact Or.inr fun _=>X.pre _ rfl | exact Or.inl (by decide +kernel) | exact Or.inr fun _=>X.init2 | exact Or.inr fun _=>X.init3);intro V X0)
          | ((with_reducible refine kf1 hK X.out (by repeat (with_reducible first | exact At.here | exact At.last | apply At.there | apply At.left)) ?_ ?_);(intro V X;first | exact Or.inl (by decide +kernel) | ((try simp only [List.set_cons_zero,List.set_cons_succ,List.cons_append,List.nil_append,List.length_cons,List.length_nil] at X);exact Or.inr fun _=>X.pre _ rfl));intro V X0;(try simp only [List.set_cons_zero,List.set_cons_succ,List.cons_append,List.nil_append,List.length_cons,List.length_nil] at X0))
          | ((with_reducible refine kf2 hK X.out (by repeat (with_reducible first | exact At.here | exact At.last | apply At.there | apply At.left)) ?_ ?_);(intro V X;first | exact Or.inl (by decide +kernel) | ((try simp only [List.set_cons_zero,List.set_cons_succ,List.cons_append,List.nil_append,List.length_cons,List.length_nil] at X);exact Or.inr fun _=>X.pre _ rfl));intro V X0;(try simp only [List.set_cons_zero,List.set_cons_succ,List.cons_append,List.nil_append,List.length_cons,List.length_nil] at X0))
          | ((with_reducible refine kf4 hK X.out (by repeat (with_reducible first | exact At.here | exact At.last | apply At.there | apply At.left)) ?_ ?_);(intro V X;first | exact Or.inl (by decide +kernel) | ((try simp only [List.set_cons_zero,List.set_cons_succ,List.cons_append,List.nil_append,List.length_cons,List.length_nil] at X);exact Or.inr fun _=>X.pre _ rfl));intro V X0;(try simp only [List.set_cons_zero,List.set_cons_succ,List.cons_append,List.nil_append,List.length_cons,List.length_nil] at X0))
          | ((with_reducible refine kf9 hK X.out (by repeat (with_reducible first | exact At.here | exact At.last | apply At.there | apply At.left)) ?_ ?_);(intro V X;first | exact Or.inl (by decide +kernel) | ((try simp only [List.set_cons_zero,List.set_cons_succ,List.cons_append,List.nil_append,List.length_cons,List.length_nil] at X);exact Or.inr fun _=>X.pre _ rfl));intro V X0;(try simp only [List.set_cons_zero,List.set_cons_succ,List.cons_append,List.nil_append,List.length_cons,List.length_nil] at X0))
          | ((with_reducible refine kf12 hK X.out (by repeat (with_reducible first | exact At.here | exact At.last | apply At.there | apply At.left)) ?_ ?_);(intro V X;first | exact Or.inl (by decide +kernel) | ((try simp only [List.set_cons_zero,List.set_cons_succ,List.cons_append,List.nil_append,List.length_cons,List.length_nil] at X);exact Or.inr fun _=>X.pre _ rfl));intro V X0;(try simp only [List.set_cons_zero,List.set_cons_succ,List.cons_append,List.nil_append,List.length_cons,List.length_nil] at X0))
          | ((with_reducible refine hK.out _ _ (Or.inr fun h=>h) ?_);have X0:=X.out)
          | ((with_reducible refine kxO hK X.out ?_ ?_);(intro V X;first | exact Or.inr fun _=>X.bare | exact Or.inr fun _=>X.init | exact Or.inr fun _=>X.pre _ rfl | exact Or.inl (by decide +kernel) | exact Or.inr fun _=>X.init2 | exact Or.inr fun _=>X.init3);intro V X0))
         all_goals (clear hK K;replace X:=hid X0;clear X0;(try simp only [Act.put,seti,set0,setS])))
      | refine done rfl (by kernel_rfl) ?_ _)
     all_goals (have F:=X.out.facts;simp only [Facts,cellsAt,List.take_succ_cons,List.take_zero,Nat.reduceAdd,and_true,List.set_cons_succ,List.set_cons_zero,List.cons_append,List.nil_append] at F))
  | ((with_reducible refine (show Met _ _ _ from ?_));go_meet;subst hLL;first | exact ⟨_,rfl,X.out⟩ | exact ⟨_,_,rfl,rfl,X.out⟩ | exact M1.out)
  | ((with_reducible refine (show bodyPost _ _ _ _ _ _ from ?_));first | exact E1.out | exact E2.out | exact E3.out | exact E4.out | (go_ret;exact ⟨rfl,X.out.bel⟩) | (go_ret;refine ⟨?_,X.out.bel⟩;first | (rw [P1.out (by assumption) (by assumption) (by assumption)];rfl;done) | (rw [P1.out (by assumption) (by assumption)];rfl;done) | (rw [P1.out (by assumption)];rfl;done) | (rw [P2.out (by assumption) (by assumption) (by assumption)];rfl;done) | (rw [P2.out (by assumption) (by assumption)];rfl;done) | (rw [P2.out (by assumption)];rfl;done) | (rw [P3.out (by assumption) (by assumption) (by assumption)];rfl;done) | (rw [P3.out (by assumption) (by assumption)];rfl;done) | (rw [P3.out (by assumption)];rfl;done) | (rw [P4.out (by assumption) (by assumption) (by assumption)];rfl;done) | (rw [P4.out (by assumption) (by assumption)];rfl;done) | (rw [P4.out (by assumption)];rfl;done)) | exact bodyPost_ret (by simp [results,RS.out,go_sem,F]) rfl ⟨rfl,X.out.bel⟩))):p:=h
theorem wk0 {p:Prop} (h:p:=by
 go_upto_region 1 with fail
 first | (with_reducible refine gs6 (M:=fun W=>Code.wp _ _ _ _ W) (fun V X0=>?_)) | (with_reducible refine gs5 (M:=fun W=>Code.wp _ _ _ _ W) (fun V X0=>?_)) | (with_reducible refine gs4 (M:=fun W=>Code.wp _ _ _ _ W) (fun V X0=>?_)) | (with_reducible refine gs3 (M:=fun W=>Code.wp _ _ _ _ W) (fun V X0=>?_)) | (with_reducible refine gs2 (M:=fun W=>Code.wp _ _ _ _ W) (fun V X0=>?_)) | (with_reducible refine gs1 (M:=fun W=>Code.wp _ _ _ _ W) (fun V X0=>?_)) | (with_reducible refine gs0 (M:=fun W=>Code.wp _ _ _ _ W) (fun V X0=>?_))
 have X:=hid X0;clear X0;have F:=X.out.facts;simp only [Facts,cellsAt,List.take_succ_cons,List.take_zero,Nat.reduceAdd,and_true,List.set_cons_succ,List.set_cons_zero,List.cons_append,List.nil_append] at F;exact wk):p:=h
theorem wkc {p:Prop} (h:p:=by
 (try ((first | obtain ⟨g,g',g'',rfl,rfl,rfl,hX⟩:=hcut | obtain ⟨g,g',rfl,rfl,hX⟩:=hcut | obtain ⟨g,rfl,hX⟩:=hcut);subst hLL;(try simp only [List.cons_append,List.nil_append] at hX);replace X:=hid hX;clear hX;replace F:=X.out.facts;simp only [Facts,cellsAt,List.take_succ_cons,List.take_zero,Nat.reduceAdd,and_true,List.set_cons_succ,List.set_cons_zero,List.cons_append,List.nil_append] at F))
 exact wk):p:=h
end Go.Proofs.YtpnokfgplnmjpaaGreatDoor
namespace Go.Proofs.YtpnokfgplnmjpaaGreatDoor
open Go.RowKit
attribute [local go_sem ↓] Go.wp_at_zero Go.wp_at_succ
attribute [local go_sem] undef yielded
theorem rq_cases (b:Bool) (m:ByteArray) (c:Bool) (k:ByteArray) :
  (c=false∧∃ q,Rq q b m k)∨canonB b m=false∨(canonB b m=true∧canonB c k=false)∨(canonB b m=true∧canonB c k=true∧c=true)∨(canonB b m=true∧canonB c k=true∧c=false∧k=⟨#[1]⟩) ∨
  (∃ (x:Int) (d:Nat),enc x=.agg #[.bool b,.string m]∧c=false∧k=mag d∧2≤d∧Nat.gcd x.natAbs d≠1):=by
 cases h1:canonB b m
 · exact .inr (.inl rfl)
 cases h2:canonB c k
 · exact .inr (.inr (.inl ⟨rfl,rfl⟩))
 obtain ⟨x,hx⟩:=canon_form h1;obtain ⟨y,hy⟩:=canon_form h2;cases c
 · obtain ⟨e1,e2⟩:=enc_parts hy;have hy0:¬y<0:=of_decide_eq_false e1.symm;obtain ⟨d,rfl⟩:∃ d:Nat,y=(d:Int):=⟨y.natAbs,om⟩
   rw [Int.natAbs_natCast] at e2;rcases Nat.lt_or_ge d 2 with hd | hd
   · rcases Nat.lt_or_ge d 1 with hd1 | hd1
     · obtain rfl:d=0:=om;exact .inl ⟨rfl,_,by rw [e2,mag_nil];exact rq_int hx⟩
     · obtain rfl:d=1:=om;exact .inr (.inr (.inr (.inr (.inl ⟨rfl,rfl,rfl,by rw [e2,mag_one]⟩))))
   · by_cases hg:Nat.gcd x.natAbs d=1
     · obtain ⟨n1,d1⟩:=rat_of_coprime (n:=x) (d:=d) om hg;exact .inl ⟨rfl,mkRat x d,by rw [n1];exact hx,by rw [d1,e2];unfold dm;rw [if_neg om]⟩
     · exact .inr (.inr (.inr (.inr (.inr ⟨x,d,hx,rfl,e2,hd,hg⟩))))
 · exact .inr (.inr (.inr (.inl ⟨rfl,rfl,rfl⟩)))
end Go.Proofs.YtpnokfgplnmjpaaGreatDoor
