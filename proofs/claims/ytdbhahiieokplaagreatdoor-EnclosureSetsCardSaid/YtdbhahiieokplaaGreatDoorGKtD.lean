import Derived.Test.YtdbhahiieokplaaGreatDoorGRHI
import Derived.Test.YtdbhahiieokplaaGreatDoorGStH
import Derived.LaidEqlPtr
import Derived.Test.YtdbhahiieokplaaGreatDoorGQW
set_option linter.unusedSimpArgs false
set_option linter.unusedVariables false

namespace Go.Proofs.YtdbhahiieokplaaGreatDoor
open Go.RowKit
attribute [local go_sem ↓] Go.wp_at_zero Go.wp_at_succ

section
variable {w wr w2:World} {t:ByteArray} {pos:Nat} {p r:List UInt8}
end

end Go.Proofs.YtdbhahiieokplaaGreatDoor


namespace Go.Proofs.YtdbhahiieokplaaGreatDoor
open Go.RowKit
attribute [local go_sem ↓] Go.wp_at_zero Go.wp_at_succ

theorem bval_lit (c:UInt8):bval ⟨#[c]⟩=c.toNat:=by
 show 0+dig ⟨#[c]⟩ 0*256^0=c.toNat
 rw [show dig ⟨#[c]⟩ 0=c.toNat from rfl]
 simp
theorem lit_one (neg:Bool) (c:UInt8) (x:Int) (hc:c.toNat≠0) (hx:x=sgn neg c.toNat):enc x=.agg #[.bool neg,.string ⟨#[c]⟩]:=by
 rw [hx]
 have h:=enc_eq (neg:=neg) (s:=⟨#[c]⟩) ⟨fun _=>hc,fun h=>by simp [ByteArray.size] at h⟩ (z:=sgn neg c.toNat) (by unfold ival sgn;rw [bval_lit c])
 exact h.symm
theorem mag_lit (c:UInt8) (hc:c.toNat≠0):mag c.toNat=⟨#[c]⟩:=by
 have h:=lit_one false c c.toNat hc rfl
 exact ((enc_parts h).2.trans (by rw [Int.natAbs_natCast])).symm
theorem mag_2:mag 2=⟨#[2]⟩:=mag_lit 2 (by decide)
end Go.Proofs.YtdbhahiieokplaaGreatDoor


namespace Go.Proofs.YtdbhahiieokplaaGreatDoor
open Go.RowKit
attribute [local go_sem ↓] Go.wp_at_zero Go.wp_at_succ

end Go.Proofs.YtdbhahiieokplaaGreatDoor


namespace Go.Proofs.YtdbhahiieokplaaGreatDoor
open Go.RowKit

section
variable {W:World} {g g':Nat} {cs:Array Value} {T:TypeId} {x0 x1 x2 x3:Value}
theorem Bq.set2 (h:Bq g cs T W) (hne:g≠g') (x y:Value):Bq g cs T ((W.setCell ⟨g',0,none⟩ x).setCell ⟨g',1,none⟩ y) :=
 ⟨(qoth hne x y).trans h.k,by rw [qsz];exact h.lt⟩
theorem qsz3 (x y z:Value):(((W.setCell ⟨g,0,none⟩ x).setCell ⟨g,1,none⟩ y).setCell ⟨g,2,none⟩ z).heap.size=W.heap.size:=by simp [World.setCell]
theorem Bq.set3 (h:Bq g cs T W) (hne:g≠g') (x y z:Value):Bq g cs T (((W.setCell ⟨g',0,none⟩ x).setCell ⟨g',1,none⟩ y).setCell ⟨g',2,none⟩ z) :=
 ⟨((Below.heap_setCell _ ⟨g',2,none⟩ z g hne).trans (qoth hne x y)).trans h.k,by rw [qsz3];exact h.lt⟩
theorem Bq.self3 (h:Bq g #[x0,x1,x2] T W) (x y z:Value):Bq g #[x,y,z] T (((W.setCell ⟨g,0,none⟩ x).setCell ⟨g,1,none⟩ y).setCell ⟨g,2,none⟩ z) :=
 ⟨by have hk:=h.k;simp [World.setCell,Array.getElem?_modify,hk],by rw [qsz3];exact h.lt⟩
theorem Bq.self4 (h:Bq g #[x0,x1,x2,x3] T W) (x y z u:Value):Bq g #[x,y,z,u] T ((((W.setCell ⟨g,0,none⟩ x).setCell ⟨g,1,none⟩ y).setCell ⟨g,2,none⟩ z).setCell ⟨g,3,none⟩ u) :=
 ⟨by have hk:=h.k;simp [World.setCell,Array.getElem?_modify,hk],by rw [qsz4];exact h.lt⟩
end
end Go.Proofs.YtdbhahiieokplaaGreatDoor



namespace Go.Proofs.YtdbhahiieokplaaGreatDoor
open Go.RowKit

structure Sb (w:World) (l:List (Nat×Array Value×TypeId)) (rs:List (Option Addr×Nat×Nat×Nat)) (W:World):Prop where
 k:∀ x∈l,W.heap[x.1]?=some (.cells x.2.1 x.2.2 (0,0))
 lo:∀ x∈l,w.heap.size≤x.1
 ne:∀ (i j:Nat) (x y:Nat×Array Value×TypeId),l[i]?=some x→l[j]?=some y→i≠j→x.1≠y.1
 tr:∀ r∈rs,Tr W r.1 r.2.1 r.2.2.1 r.2.2.2
 ap:∀ r∈rs,∀ x∈l,0<r.2.1→∀ a,r.1=some a→a.block≠x.1
 bel:Below w.heap.size w W

theorem Tr.block_lt {W:World} {A:Option Addr} {n c V:Nat} (h:Tr W A n c V) (hn:0<n) {a:Addr} (e:A=some a):a.block<W.heap.size:=by
 obtain ⟨g,o,e',hg,_⟩:=h.dg.rd hn
 rw [e] at e'
 injection e' with e'
 subst e'
 exact hg
theorem Tr.keep {W W2:World} {A:Option Addr} {n c V:Nat} (h:Tr W A n c V) (hk:0<n→∀ a,A=some a→W2.heap[a.block]?=W.heap[a.block]?) (hs:W.heap.size≤W2.heap.size):Tr W2 A n c V :=
 ⟨⟨h.dg.lt,fun hn=>by
   obtain ⟨g,o,e,hg,hc⟩:=h.dg.rd hn
   exact ⟨g,o,e,Nat.lt_of_lt_of_le hg hs,fun j hj=>(World.cell?_of_block (w:=W) (a:=⟨g,o+j,none⟩) (by have h1:=hk hn _ e;exact h1)).trans (hc j hj)⟩⟩,h.ln,h.cap,h.nil⟩

section
variable {w W W2:World} {l l':List (Nat×Array Value×TypeId)} {rs rs':List (Option Addr×Nat×Nat×Nat)} {g:Nat} {cs cs':Array Value} {T:TypeId}
theorem Sb.lt (h:Sb w l rs W) {x:Nat×Array Value×TypeId} (hx:x∈l):x.1<W.heap.size:=(Array.getElem?_eq_some_iff.1 (h.k x hx)).1
theorem Sb.start (w:World):Sb w [] [] w:=⟨fun _ h=>by simp at h,fun _ h=>by simp at h,fun _ _ _ _ h=>by simp at h,fun _ h=>by simp at h,fun _ h=>by simp at h,Below.refl _ _⟩
theorem Sb.next (h:Sb w l rs W) (hb:Below W.heap.size W W2):Sb w l rs W2 :=
 ⟨fun x hx=>(hb.block _ (h.lt hx)).trans (h.k x hx),h.lo,h.ne,fun r hr=>(h.tr r hr).below hb,h.ap,h.bel.trans (hb.mono h.bel.size)⟩
theorem Sb.drew (h:Sb w l rs W):Sb w l rs W.drew:=h.next (Below.refl _ _).drew
theorem Sb.new (h:Sb w l rs W) (cs:Array Value) (T:TypeId):Sb w (l++[(W.heap.size,cs,T)]) rs (W.alloc (.cells cs T)):=by
 have hn:=h.next (below_new W (.cells cs T))
 refine ⟨fun x hx=>?_,fun x hx=>?_,fun i j x y hi hj hij=>?_,hn.tr,fun r hr x hx hn a ha=>?_,hn.bel⟩
 · rcases List.mem_append.1 hx with h1 | h1
   · exact hn.k x h1
   · obtain rfl:x=_:=by simpa using h1
     exact heap_one _ _
 · rcases List.mem_append.1 hx with h1 | h1
   · exact h.lo x h1
   · obtain rfl:x=_:=by simpa using h1
     exact h.bel.size
 · have key : ∀ {i x}, (l ++ [(W.heap.size, cs, T)])[i]? = some x → (i < l.length ∧ l[i]? = some x) ∨ (i = l.length ∧ x.1 = W.heap.size) := by
    intro i x hi
    rcases Nat.lt_trichotomy i l.length with h1 | h1 | h1
    · rw [List.getElem?_append_left h1] at hi
      exact .inl ⟨h1,hi⟩
    · subst h1
      rw [List.getElem?_append_right (Nat.le_refl _)] at hi
      simp at hi
      exact .inr ⟨rfl,by rw [←hi]⟩
    · rw [List.getElem?_append_right (by omega)] at hi
      have:i-l.length≠0:=by omega
      obtain ⟨m,hm⟩:∃ m,i-l.length=m+1:=⟨i-l.length-1,by omega⟩
      rw [hm] at hi
      simp at hi
   rcases key hi with ⟨h1,h2⟩ | ⟨h1,h2⟩<;>rcases key hj with ⟨h3,h4⟩ | ⟨h3,h4⟩
   · exact h.ne i j x y h2 h4 hij
   · have:=h.lt (List.mem_of_getElem? h2);omega
   · have:=h.lt (List.mem_of_getElem? h4);omega
   · omega
 · rcases List.mem_append.1 hx with h1 | h1
   · exact h.ap r hr x h1 hn a ha
   · obtain rfl:x=_:=by simpa using h1
     have:=(h.tr r hr).block_lt hn ha
     show a.block≠W.heap.size
     omega
theorem Sb.row (h:Sb w l rs W) (hb:Below W.heap.size W W2) {A:Option Addr} {n c V:Nat} (ht:Tr W2 A n c V) (hf:∀ a,A=some a→W.heap.size≤a.block):Sb w l (rs++[(A,n,c,V)]) W2:=by
 have hn:=h.next hb
 refine ⟨hn.k,hn.lo,hn.ne,fun r hr=>?_,fun r hr x hx h0 a ha=>?_,hn.bel⟩
 · rcases List.mem_append.1 hr with h1 | h1
   · exact hn.tr r h1
   · obtain rfl:r=_:=by simpa using h1
     exact ht
 · rcases List.mem_append.1 hr with h1 | h1
   · exact h.ap r h1 x hx h0 a ha
   · obtain rfl:r=_:=by simpa using h1
     have h2:=hf a ha
     have h3:=h.lt hx
     omega
theorem Sb.row2 (h:Sb w l rs W) (hb:Below W.heap.size W W2) {A B:Option Addr} {n c V m d U:Nat} (ht:Tr W2 A n c V) (hu:Tr W2 B m d U) (hf:∀ a,A=some a→W.heap.size≤a.block) (hg:∀ a,B=some a→W.heap.size≤a.block):Sb w l (rs++[(A,n,c,V),(B,m,d,U)]) W2:=by
 have hn:=h.next hb
 refine ⟨hn.k,hn.lo,hn.ne,fun r hr=>?_,fun r hr x hx h0 a ha=>?_,hn.bel⟩
 · rcases List.mem_append.1 hr with h1 | h1
   · exact hn.tr r h1
   · rcases (by simpa using h1:r=_∨r=_) with rfl | rfl
     · exact ht
     · exact hu
 · rcases List.mem_append.1 hr with h1 | h1
   · exact h.ap r h1 x hx h0 a ha
   · have h3:=h.lt hx
     rcases (by simpa using h1:r=_∨r=_) with rfl | rfl
     · have h2:=hf a ha
       omega
     · have h2:=hg a ha
       omega
theorem Sb.put (h:Sb w l rs W) {i:Nat} (hl:l[i]?=some (g,cs,T)) (hk:W2.heap[g]?=some (.cells cs' T (0,0))) (ho:∀ k,k≠g→W2.heap[k]?=W.heap[k]?) (hs:W.heap.size≤W2.heap.size) (hb:Below w.heap.size W W2):Sb w (l.set i (g,cs',T)) rs W2:=by
 have hi:i<l.length:=(List.getElem?_eq_some_iff.1 hl).1
 have hm:=List.mem_of_getElem? hl
 have key:∀ {j x},(l.set i (g,cs',T))[j]?=some x→∃ y,l[j]?=some y∧x.1=y.1∧(j≠i→x=y)∧(j=i→x=(g,cs',T)):=by
  intro j x hj
  rw [List.getElem?_set] at hj
  split at hj
  · rename_i h1
    subst h1
    try rw [if_pos hi] at hj
    injection hj with hj
    exact ⟨_,hl,by rw [←hj],fun h=>absurd rfl h,fun _=>hj.symm⟩
  · rename_i h1
    exact ⟨x,hj,rfl,fun _=>rfl,fun h=>absurd h.symm h1⟩
 have mem:∀ {x},x∈l.set i (g,cs',T)→∃ j,(l.set i (g,cs',T))[j]?=some x:=fun hx=>List.getElem?_of_mem hx
 refine ⟨fun x hx=>?_,fun x hx=>?_,fun j j' x y hx hy hne=>?_,fun r hr=>?_,fun r hr x hx h0 a ha=>?_,h.bel.trans hb⟩
 · obtain ⟨j,hj⟩:=mem hx
   obtain ⟨y,h1,h2,h3,h4⟩:=key hj
   by_cases hji:j=i
   · rw [h4 hji];exact hk
   · rw [h3 hji]
     exact (ho _ (h.ne j i y _ h1 hl hji)).trans (h.k y (List.mem_of_getElem? h1))
 · obtain ⟨j,hj⟩:=mem hx
   obtain ⟨y,h1,h2,h3,h4⟩:=key hj
   rw [h2]
   exact h.lo y (List.mem_of_getElem? h1)
 · obtain ⟨x',h1,h2,_,_⟩:=key hx
   obtain ⟨y',h3,h4,_,_⟩:=key hy
   rw [h2,h4]
   exact h.ne j j' x' y' h1 h3 hne
 · exact (h.tr r hr).keep (fun h0 a ha=>ho _ (h.ap r hr _ hm h0 a ha)) hs
 · obtain ⟨j,hj⟩:=mem hx
   obtain ⟨y,h1,h2,h3,h4⟩:=key hj
   rw [h2]
   exact h.ap r hr y (List.mem_of_getElem? h1) h0 a ha
theorem Sb.set2 (h:Sb w l rs W) {i:Nat} {x0 x1:Value} (hl:l[i]?=some (g,#[x0,x1],T)) (x y:Value):Sb w (l.set i (g,#[x,y],T)) rs ((W.setCell ⟨g,0,none⟩ x).setCell ⟨g,1,none⟩ y) :=
 h.put hl (qset (h.k _ (List.mem_of_getElem? hl)) x y) (fun k hk=>qoth hk x y) (Nat.le_of_eq (qsz x y).symm) (below_set2 (Below.refl _ _) (h.lo _ (List.mem_of_getElem? hl)) x y)
theorem Sb.set3 (h:Sb w l rs W) {i:Nat} {x0 x1 x2:Value} (hl:l[i]?=some (g,#[x0,x1,x2],T)) (x y z:Value):Sb w (l.set i (g,#[x,y,z],T)) rs (((W.setCell ⟨g,0,none⟩ x).setCell ⟨g,1,none⟩ y).setCell ⟨g,2,none⟩ z) :=
 h.put hl (Bq.self3 ⟨h.k _ (List.mem_of_getElem? hl),h.lt (List.mem_of_getElem? hl)⟩ x y z).k (fun k hk=>(Below.heap_setCell _ ⟨g,2,none⟩ z k hk).trans (qoth hk x y)) (Nat.le_of_eq (qsz3 x y z).symm) (below_set3 (Below.refl _ _) (h.lo _ (List.mem_of_getElem? hl)) x y z)
theorem Sb.set4 (h:Sb w l rs W) {i:Nat} {x0 x1 x2 x3:Value} (hl:l[i]?=some (g,#[x0,x1,x2,x3],T)) (x y z u:Value):Sb w (l.set i (g,#[x,y,z,u],T)) rs ((((W.setCell ⟨g,0,none⟩ x).setCell ⟨g,1,none⟩ y).setCell ⟨g,2,none⟩ z).setCell ⟨g,3,none⟩ u) :=
 h.put hl (Bq.self4 ⟨h.k _ (List.mem_of_getElem? hl),h.lt (List.mem_of_getElem? hl)⟩ x y z u).k (fun k hk=>qoth4 hk x y z u) (Nat.le_of_eq (qsz4 x y z u).symm) (below_set4 (Below.refl _ _) (h.lo _ (List.mem_of_getElem? hl)) x y z u)
theorem Sb.pick (h:Sb w l rs W) (is:List Nat) (l':List (Nat×Array Value×TypeId)) (rs':List (Option Addr×Nat×Nat×Nat)) (hl:is.map (fun i:Nat=>l[i]?)=l'.map some) (hn:is.Nodup) (hr:∀ r∈rs',r∈rs):Sb w l' rs' W:=by
 have at':∀ {j:Nat} {x:Nat×Array Value×TypeId},l'[j]?=some x→∃ i,is[j]?=some i∧l[i]?=some x:=by
  intro j x hj
  have h1:(l'.map some)[j]?=some (some x):=by rw [List.getElem?_map,hj];rfl
  rw [←hl,List.getElem?_map] at h1
  obtain ⟨i,h2,h3⟩:=Option.map_eq_some_iff.1 h1
  exact ⟨i,h2,h3⟩
 have mem:∀ {x:Nat×Array Value×TypeId},x∈l'→x∈l:=fun hx=>by
  obtain ⟨j,hj⟩:=List.getElem?_of_mem hx
  obtain ⟨i,_,h2⟩:=at' hj
  exact List.mem_of_getElem? h2
 refine ⟨fun x hx=>h.k x (mem hx),fun x hx=>h.lo x (mem hx),fun j j' x y hx hy hne=>?_,fun r hr'=>h.tr r (hr r hr'),fun r hr' x hx=>h.ap r (hr r hr') x (mem hx),h.bel⟩
 obtain ⟨i,h1,h2⟩:=at' hx
 obtain ⟨i',h3,h4⟩:=at' hy
 refine h.ne i i' x y h2 h4 fun e=>hne ?_
 subst e
 obtain ⟨ha,hb⟩:=List.getElem?_eq_some_iff.1 h1
 obtain ⟨hc,hd⟩:=List.getElem?_eq_some_iff.1 h3
 exact (List.getElem_inj hn).1 (hb.trans hd.symm)
theorem wexi (_:Sb w l rs W):∃ V,V=W:=⟨_,rfl⟩
theorem Sb.rw (h:Sb w l rs W) {i n c V:Nat} {A:Option Addr} (hl:rs[i]?=some (A,n,c,V)):Tr W A n c V:=h.tr _ (List.mem_of_getElem? hl)
theorem Sb.at (h:Sb w l rs W) {i:Nat} (hl:l[i]?=some (g,cs,T)):W.heap[g]?=some (.cells cs T (0,0)):=h.k _ (List.mem_of_getElem? hl)
theorem Sb.c2 (h:Sb w l rs W) {i:Nat} {x0 x1:Value} (hl:l[i]?=some (g,#[x0,x1],T)):W.cell? ⟨g,0,none⟩=some x0∧W.cell? ⟨g,1,none⟩=some x1:=⟨(blk_cells (h.at hl)).1,(blk_cells (h.at hl)).2.1⟩
theorem Sb.f2 (h:Sb w l rs W) {i:Nat} {x0 x1:Value} (hl:l[i]?=some (g,#[x0,x1],T)):W.frozen? ⟨g,0,none⟩=false∧W.frozen? ⟨g,1,none⟩=false:=⟨(blk_cells (h.at hl)).2.2.1,(blk_cells (h.at hl)).2.2.2⟩
theorem Sb.c3 (h:Sb w l rs W) {i:Nat} {x0 x1 x2:Value} (hl:l[i]?=some (g,#[x0,x1,x2],T)):W.cell? ⟨g,0,none⟩=some x0∧W.cell? ⟨g,1,none⟩=some x1∧W.cell? ⟨g,2,none⟩=some x2:=⟨(blk3 (h.at hl)).1,(blk3 (h.at hl)).2.1,(blk3 (h.at hl)).2.2.1⟩
theorem Sb.f3 (h:Sb w l rs W) {i:Nat} {x0 x1 x2:Value} (hl:l[i]?=some (g,#[x0,x1,x2],T)):W.frozen? ⟨g,0,none⟩=false∧W.frozen? ⟨g,1,none⟩=false∧W.frozen? ⟨g,2,none⟩=false:=(blk3 (h.at hl)).2.2.2
theorem Sb.c4 (h:Sb w l rs W) {i:Nat} {x0 x1 x2 x3:Value} (hl:l[i]?=some (g,#[x0,x1,x2,x3],T)):W.cell? ⟨g,0,none⟩=some x0∧W.cell? ⟨g,1,none⟩=some x1∧W.cell? ⟨g,2,none⟩=some x2∧W.cell? ⟨g,3,none⟩=some x3:=blk4 (h.at hl)
theorem Sb.f4 (h:Sb w l rs W) {i:Nat} {x0 x1 x2 x3:Value} (hl:l[i]?=some (g,#[x0,x1,x2,x3],T)):W.frozen? ⟨g,0,none⟩=false∧W.frozen? ⟨g,1,none⟩=false∧W.frozen? ⟨g,2,none⟩=false∧W.frozen? ⟨g,3,none⟩=false:=fro4 (h.at hl)
end


def takeB (md:Region.Mode) (ops:Array Oper) (L:List Nat) (listed:Array Bool) (i:Nat):Bool :=
 Region.noSelect ops && Region.free md ops listed i && (Region.ready md ops listed).contains i && closedB md ops listed && L.all (fun j=>waits md ops i ops.size j)
theorem tk {P:Program} {ops:Array Oper} {Q:Exit→Act→World→Prop} {md:Region.Mode} {S:World→Prop} {L:List Nat} {i:Nat} {oi:Oper} {v:Value} {fuel:Nat} {listed:Array Bool} {a:Act} {w:World} (hi:ops[i]?=some oi) (hb:takeB md ops L listed i=true)
  (hQ:∀ c a w,Q (.panic c) (a.put oi.dst v) w→Q (.panic c) a w) (hS:S w) (hy:YieldsIf P ops S oi v a)
  (h:wpLate P md ops Q S L fuel (listed.setIfInBounds i true) (a.put oi.dst v) w):wpLate P md ops Q S L (fuel+1) listed a w:=by
 simp only [takeB,Bool.and_eq_true] at hb
 obtain ⟨⟨⟨⟨h1,h2⟩,h3⟩,h4⟩,h5⟩:=hb
 exact wpLate_take hi h1 h2 h3 h4 h5 hQ hy hS h
theorem seti {α:Type} (xs:List α) (i:Nat) (a:α):xs.toArray.setIfInBounds i a=(xs.set i a).toArray:=List.setIfInBounds_toArray ..
theorem set0 {α:Type} (x y:α) (xs:List α):(x :: xs).set 0 y=y :: xs:=rfl
theorem setS {α:Type} (x y:α) (xs:List α) (n:Nat):(x :: xs).set (n+1) y=x :: xs.set n y:=rfl
end Go.Proofs.YtdbhahiieokplaaGreatDoor


namespace Go.Proofs.YtdbhahiieokplaaGreatDoor
open Go.RowKit

def cellsAt (W:World) (g:Nat):Nat→List Value→Prop
 | _,[]=>True
 | k,v :: vs=>W.cell? ⟨g,k,none⟩=some v∧W.frozen? ⟨g,k,none⟩=false∧cellsAt W g (k+1) vs
def Facts (W:World):List (Nat×Array Value×TypeId)→Prop
 | []=>True
 | x :: l=>cellsAt W x.1 0 x.2.1.toList∧Facts W l
theorem cellsAt_of {W:World} {g:Nat} {cs:Array Value} {T:TypeId} (h:W.heap[g]?=some (.cells cs T (0,0))):∀ (l:List Value) (k:Nat),(∀ j,l[j]?=cs[k+j]?)→cellsAt W g k l
 | [],_,_=>trivial
 | v :: vs,k,e=>by
   have h0:=e 0
   simp at h0
   refine ⟨by simp [World.cell?,h,←h0],by simp [World.frozen?,h,←h0],cellsAt_of h vs (k+1) fun j=>?_⟩
   have h1:=e (j+1)
   simp at h1
   rw [h1]
   congr 1
   omega
theorem facts_of {W:World}:∀ {l:List (Nat×Array Value×TypeId)},(∀ x∈l,W.heap[x.1]?=some (.cells x.2.1 x.2.2 (0,0)))→Facts W l
 | [],_=>trivial
 | x :: l,h=>⟨cellsAt_of (h x (by simp)) _ 0 (fun j=>by simp),facts_of fun y hy=>h y (by simp [hy])⟩
section
variable {w W:World} {l:List (Nat×Array Value×TypeId)} {rs:List (Option Addr×Nat×Nat×Nat)} {g:Nat} {T:TypeId}
theorem Sb.facts (h:Sb w l rs W):Facts W l:=facts_of h.k
theorem Sb.take (h:Sb w l rs W) (n:Nat):Sb w (l.take n) [] W:=by
 refine ⟨fun x hx=>h.k x (List.mem_of_mem_take hx),fun x hx=>h.lo x (List.mem_of_mem_take hx),fun i j x y hi hj hij=>?_,fun _ h=>by simp at h,fun _ h=>by simp at h,h.bel⟩
 rw [List.getElem?_take] at hi hj
 split at hi
 · split at hj
   · exact h.ne i j x y hi hj hij
   · cases hj
 · cases hi
theorem lexi (_:Sb w l rs W):∃ L,L=l:=⟨_,rfl⟩
theorem Sb.bare (h:Sb w l rs W):Sb w l [] W:=by
 have h1:=h.take l.length
 rw [List.take_length] at h1
 exact h1
theorem Sb.init {l2:List (Nat×Array Value×TypeId)} (h:Sb w (l++l2) rs W):Sb w l [] W:=by
 have h1:=h.take l.length
 rw [List.take_left] at h1
 exact h1
theorem Sb.init2 {l2 l3:List (Nat×Array Value×TypeId)} (h:Sb w ((l++l2)++l3) rs W):Sb w l [] W:=h.init.init
theorem gn {M:World→Prop} (X:Sb w l rs W) (h:∀ V,Sb w l rs V→M V):M W:=h _ X
theorem Sb.plus (h:Sb w l rs W) (cs:Array Value) (T:TypeId):Sb w (l++[(W.heap.size,cs,T)]) rs (W.alloc (.cells cs T)):=h.new cs T
theorem an {M:World→Prop} (X:Sb w l rs W) {cs:Array Value} {T:TypeId} (h:∀ V,Sb w (l++[(W.heap.size,cs,T)]) rs V→M V):M (W.alloc (.cells cs T)):=h _ (X.new cs T)
theorem kx {a':Act} {K C:Act→World→Prop} {c:World→Prop} (hK:Shut (∀ a' w',c w'→C a' w'→K a' w')) (X:Sb w l rs W) (hc:∀ V,Sb w l rs V→c V) (h:∀ V,Sb w l rs V→C a' V):K a' W:=hK.out _ _ (hc _ X) (h _ X)
theorem ka {a':Act} {K C:Act→World→Prop} {c:World→Prop} (hK:Shut (∀ a' w',c w'→C a' w'→K a' w')) (X:Sb w l rs W) {cs:Array Value} {T:TypeId} (hc:∀ V,Sb w (l++[(W.heap.size,cs,T)]) rs V→c V) (h:∀ V,Sb w (l++[(W.heap.size,cs,T)]) rs V→C a' V):K a' (W.alloc (.cells cs T)):=hK.out _ _ (hc _ (X.new cs T)) (h _ (X.new cs T))
theorem new_st2 (X:Sb w l rs W) (i:Nat) {x0 x1:Value} (hl:l[i]?=some (g,#[x0,x1],T)) {y0 y1:Value}:Sb w (l.set i (g,#[y0,y1],T)) rs ((W.setCell ⟨g,0,none⟩ y0).setCell ⟨g,1,none⟩ y1):=X.set2 hl y0 y1
theorem st2 {M:World→Prop} (X:Sb w l rs W) (i:Nat) {x0 x1:Value} (hl:l[i]?=some (g,#[x0,x1],T)) {y0 y1:Value} (h:∀ V,Sb w (l.set i (g,#[y0,y1],T)) rs V→M V):M ((W.setCell ⟨g,0,none⟩ y0).setCell ⟨g,1,none⟩ y1):=h _ (new_st2 X i hl)
end

def pureB:Op→Bool
 | .call _=>false
 | .alloc _=>false
 | .box ..=>false
 | .buildSlice ..=>false
 | .store ..=>false
 | .load ..=>false
 | _=>true
def loadB:Op→Bool
 | .load ..=>true
 | _=>false
def ids:List Nat:=[0,1,2,3,4,5,6,7,8,9,10,11,12,13,14,15,16,17,18,19,20,21,22,23,24,25,26,27,28,29,30,31,32,33,34,35,36,37,38,39,40,41,42,43,44,45,46,47,48,49,50,51,52,53,54,55,56,57,58,59,60,61,62,63,64]
def atB:List Bool→Nat→Bool
 | [],_=>false
 | b :: _,0=>b
 | _ :: bs,n+1=>atB bs n
def backB (ls:List Bool):List Edge→Bool
 | []=>true
 | e :: es=>match Region.binds .any e with
   | false=>backB ls es
   | true=>match atB ls e.on with
     | true=>backB ls es
     | false=>false
def rdyL (ls:List Bool):List Oper→List Bool→List Nat→List Nat
 | o :: os,b :: bs,k :: ks=>match b with
   | true=>rdyL ls os bs ks
   | false=>match backB ls o.after.toList with
     | true=>k :: rdyL ls os bs ks
     | false=>rdyL ls os bs ks
 | _,_,_=>[]
def pkL (p:Oper→Bool) (ls:List Bool):List Oper→List Bool→List Nat→Option Nat
 | o :: os,b :: bs,k :: ks=>match b with
   | true=>pkL p ls os bs ks
   | false=>match p o with
     | false=>pkL p ls os bs ks
     | true=>match backB ls o.after.toList with
       | true=>some k
       | false=>pkL p ls os bs ks
 | _,_,_=>none
def rdy (ops:Array Oper) (listed:Array Bool):List Nat:=rdyL listed.toList ops.toList listed.toList ids
def pkP (ops:Array Oper) (listed:Array Bool):Option Nat:=pkL (fun o=>pureB o.op) listed.toList ops.toList listed.toList ids
def pkL' (ops:Array Oper) (listed:Array Bool):Option Nat:=pkL (fun o=>loadB o.op) listed.toList ops.toList listed.toList ids
def pkG (ops:Array Oper) (listed:Array Bool):Option Nat:=pkL (fun o=>o.guard.isSome) listed.toList ops.toList listed.toList ids
def takeF (md:Region.Mode) (ops:Array Oper) (listed:Array Bool) (i:Nat):Bool :=
 Region.noSelect ops && Region.free md ops listed i && (Region.ready md ops listed).contains i && closedB md ops listed
def stB:List Oper→List Nat→List Nat
 | o :: os,k :: ks=>match o.op with
   | .store ..=>k :: stB os ks
   | _=>stB os ks
 | _,_=>[]
section
variable {P:Program} {ops:Array Oper} {Q:Exit→Act→World→Prop} {md:Region.Mode} {S:World→Prop} {L:List Nat} {i j k:Nat} {oi o o' o'':Oper} {v:Value} {fuel:Nat} {listed:Array Bool} {a:Act} {w:World}
theorem tkN (_hf:pkL' ops listed=some i) (hi:ops[i]?=some oi) (hb:takeB md ops L listed i=true)
 (hQ:∀ c a w,Q (.panic c) (a.put oi.dst v) w→Q (.panic c) a w) (hS:S w) (hy:YieldsIf P ops S oi v a)
 (h:wpLate P md ops Q S L fuel (listed.setIfInBounds i true) (a.put oi.dst v) w):wpLate P md ops Q S L (fuel+1) listed a w:=tk hi hb hQ hS hy h
theorem fits {v:Value} (hb:takeF md ops listed i=true):Region.noSelect ops=true∧Region.free md ops listed i=true∧(Region.ready md ops listed).contains i=true∧closedB md ops listed=true:=by
 simp only [takeF,Bool.and_eq_true] at hb
 exact ⟨hb.1.1.1,hb.1.1.2,hb.1.2,hb.2⟩
theorem tkF (_hf:pkP ops listed=some i) (hi:ops[i]?=some oi) (hb:takeF md ops listed i=true)
  (hQ:∀ c a w,Q (.panic c) (a.put oi.dst v) w→Q (.panic c) a w) (hy:YieldsIf P ops (fun _=>True) oi v a)
  (h:wpLate P md ops Q S L fuel (listed.setIfInBounds i true) (a.put oi.dst v) w):wpLate P md ops Q S L (fuel+1) listed a w:=by
 obtain ⟨h1,h2,h3,h4⟩:=fits (v:=v) hb
 exact wpLate_free hi h1 h2 h3 h4 hQ hy h
theorem tkG (_hf:pkG ops listed=some i) (hi:ops[i]?=some oi) (hb:takeF md ops listed i=true)
  (hQ:∀ c a w,Q (.panic c) (a.put oi.dst undef) w→Q (.panic c) a w) (hy:Region.wanted oi (yielded ops a.tmps)=false)
  (h:wpLate P md ops Q S L fuel (listed.setIfInBounds i true) (a.put oi.dst undef) w):wpLate P md ops Q S L (fuel+1) listed a w:=by
 obtain ⟨h1,h2,h3,h4⟩:=fits (v:=undef) hb
 exact wpLate_free hi h1 h2 h3 h4 hQ (Or.inr ⟨hy,rfl⟩) h
theorem one (_hf:rdy ops listed=[i]) (ho:ops[i]?=some o) (hr:Region.ready md ops listed=[i])
 (h:∀ K':Act→World→Prop,Shut (∀ a' w',(L.contains i=true∨(S w→S w'))→wpLate P md ops Q S L fuel (listed.setIfInBounds i true) a' w'→K' a' w')→if Region.wanted o (yielded ops a.tmps)=true then Oper.wp P o a w K' Q else K' (a.put o.dst undef) w) :
 wpLate P md ops Q S L (fuel+1) listed a w:=wpLate_one hr ho h
theorem two (_hf:rdy ops listed=[i,j]) (ho:ops[i]?=some o) (ho':ops[j]?=some o') (hr:Region.ready md ops listed=[i,j])
 (h:∀ K':Act→World→Prop,Shut (∀ a' w',(L.contains i=true∨(S w→S w'))→wpLate P md ops Q S L fuel (listed.setIfInBounds i true) a' w'→K' a' w')→if Region.wanted o (yielded ops a.tmps)=true then Oper.wp P o a w K' Q else K' (a.put o.dst undef) w)
 (h':∀ K':Act→World→Prop,Shut (∀ a' w',(L.contains j=true∨(S w→S w'))→wpLate P md ops Q S L fuel (listed.setIfInBounds j true) a' w'→K' a' w')→if Region.wanted o' (yielded ops a.tmps)=true then Oper.wp P o' a w K' Q else K' (a.put o'.dst undef) w) :
 wpLate P md ops Q S L (fuel+1) listed a w:=wpLate_two hr ho ho' h h'
theorem three (_hf:rdy ops listed=[i,j,k]) (ho:ops[i]?=some o) (ho':ops[j]?=some o') (ho'':ops[k]?=some o'') (hr:Region.ready md ops listed=[i,j,k])
  (h:∀ K':Act→World→Prop,Shut (∀ a' w',(L.contains i=true∨(S w→S w'))→wpLate P md ops Q S L fuel (listed.setIfInBounds i true) a' w'→K' a' w')→if Region.wanted o (yielded ops a.tmps)=true then Oper.wp P o a w K' Q else K' (a.put o.dst undef) w)
  (h':∀ K':Act→World→Prop,Shut (∀ a' w',(L.contains j=true∨(S w→S w'))→wpLate P md ops Q S L fuel (listed.setIfInBounds j true) a' w'→K' a' w')→if Region.wanted o' (yielded ops a.tmps)=true then Oper.wp P o' a w K' Q else K' (a.put o'.dst undef) w)
  (h'':∀ K':Act→World→Prop,Shut (∀ a' w',(L.contains k=true∨(S w→S w'))→wpLate P md ops Q S L fuel (listed.setIfInBounds k true) a' w'→K' a' w')→if Region.wanted o'' (yielded ops a.tmps)=true then Oper.wp P o'' a w K' Q else K' (a.put o''.dst undef) w) :
  wpLate P md ops Q S L (fuel+1) listed a w:=by
 refine ⟨fun h0=>(by rw [h0] at hr;cases hr),fun m hm=>?_⟩
 rw [hr] at hm
 rcases (by simpa using hm:m=i∨m=j∨m=k) with rfl | rfl | rfl
 · exact wpOp_step ho (fun K' hK=>h K' (fun a w hS hW=>hK a w ⟨hS,hW⟩))
 · exact wpOp_step ho' (fun K' hK=>h' K' (fun a w hS hW=>hK a w ⟨hS,hW⟩))
 · exact wpOp_step ho'' (fun K' hK=>h'' K' (fun a w hS hW=>hK a w ⟨hS,hW⟩))
end
theorem done {P:Program} {ops:Array Oper} {Q:Exit→Act→World→Prop} {md:Region.Mode} {S:World→Prop} {L:List Nat} {listed:Array Bool} {a:Act} {w:World} (_hf:rdy ops listed=[]) (hr:Region.ready md ops listed=[]) (h:Q .normal a w) (n:Nat):wpLate P md ops Q S L n listed a w:=wpLate_done hr h n
end Go.Proofs.YtdbhahiieokplaaGreatDoor


namespace Go.Proofs.YtdbhahiieokplaaGreatDoor
open Go.RowKit
attribute [local go_sem ↓] Go.wp_at_zero Go.wp_at_succ

end Go.Proofs.YtdbhahiieokplaaGreatDoor


namespace Go.Proofs.YtdbhahiieokplaaGreatDoor

def Sz (n:Nat) (q:Rat):Prop:=q.num.natAbs<256^n∧q.den<256^n

theorem mkRat_le (x:Int) {d:Nat} (hd:d≠0):(mkRat x d).num.natAbs≤x.natAbs∧(mkRat x d).den≤d:=by
 obtain ⟨h1,h2⟩:=mkRat_parts x hd
 rw [h1,h2]
 refine ⟨?_,Nat.div_le_self _ _⟩
 rw [Int.natAbs_ediv_of_dvd (int_gcd_dvd x d),Int.natAbs_natCast]
 exact Nat.div_le_self _ _
theorem Sz.mul {n m:Nat} {p q:Rat} (hp:Sz n p) (hq:Sz m q):Sz (n+m) (p*q):=by
 rw [Rat.mul_def']
 obtain ⟨h1,h2⟩:=mkRat_le (p.num*q.num) (d:=p.den*q.den) (Nat.mul_ne_zero p.den_nz q.den_nz)
 unfold Sz
 rw [Nat.pow_add]
 refine ⟨Nat.lt_of_le_of_lt h1 ?_,Nat.lt_of_le_of_lt h2 (Nat.mul_lt_mul'' hp.2 hq.2)⟩
 rw [Int.natAbs_mul]
 exact Nat.mul_lt_mul'' hp.1 hq.1
theorem Sz.add {n m:Nat} {p q:Rat} (hp:Sz n p) (hq:Sz m q):Sz (n+m+1) (p+q):=by
 rw [Rat.add_def']
 obtain ⟨h1,h2⟩:=mkRat_le (p.num*q.den+q.num*p.den) (d:=p.den*q.den) (Nat.mul_ne_zero p.den_nz q.den_nz)
 have h3:=Int.natAbs_add_le (p.num*(q.den:Int)) (q.num*(p.den:Int))
 rw [Int.natAbs_mul,Int.natAbs_mul,Int.natAbs_natCast,Int.natAbs_natCast] at h3
 have h4:p.num.natAbs*q.den<256^n*256^m:=Nat.mul_lt_mul'' hp.1 hq.2
 have h5:q.num.natAbs*p.den<256^m*256^n:=Nat.mul_lt_mul'' hq.1 hp.2
 have h6:p.den*q.den<256^n*256^m:=Nat.mul_lt_mul'' hp.2 hq.2
 rw [Nat.mul_comm (256^m)] at h5
 unfold Sz
 rw [Nat.pow_succ,Nat.pow_add]
 omega
theorem Sz.m {n:Nat} {q:Rat} (h:Sz n q) {b:Bool} {m k:ByteArray} (hq:Rq q b m k) (hn:n≤10000):m.size≤10000∧(mag q.den).size≤10000:=by
 refine ⟨?_,Nat.le_trans (mag_size_le h.2) hn⟩
 rw [hq.mag.2]
 exact Nat.le_trans (mag_size_le h.1) hn
theorem Sz.minus {n:Nat} {q:Rat} (h:Sz n q):Sz n (-q):=by
 unfold Sz
 rw [Rat.neg_num,Rat.neg_den,Int.natAbs_neg]
 exact h
end Go.Proofs.YtdbhahiieokplaaGreatDoor


namespace Go.Proofs.YtdbhahiieokplaaGreatDoor
open Go.RowKit
attribute [local go_sem ↓] Go.wp_at_zero Go.wp_at_succ

theorem rq_int {x:Int} {b:Bool} {m:ByteArray} (h:enc x=.agg #[.bool b,.string m]):Rq (x:Rat) b m ⟨#[]⟩:=⟨by rw [Rat.num_intCast];exact h,by rw [Rat.den_intCast,dm_one]⟩
theorem divInt_1 (x:Int):Rat.divInt x 1=(x:Rat):=by
 rw [show (1:Int)=((1:Nat):Int) from rfl,Rat.divInt_ofNat]
 exact Rat.mkRat_one x

set_option maxHeartbeats 2000000 in
set_option maxRecDepth 100000 in
theorem rFromInt_f {x:Int} {b:Bool} {m:ByteArray} (hx:enc x=.agg #[.bool b,.string m]) (x1:-9223372036854775808≤x) (x2:x≤9223372036854775807) (w:World) :
  Calls Tryz.prog 87 #[.int .i64 x] w (RetB w (.agg #[.bool b,.string m,.bool false,.string ⟨#[]⟩])):=by
 have HX:=Lib.hid hx
 have KR:=Lib.hid (Bq.new w #[.bool false,.string ⟨#[]⟩,.bool false,.string ⟨#[]⟩] 25)
 have HB:=Lib.hid (below_new w (.cells #[.bool false,.string ⟨#[]⟩,.bool false,.string ⟨#[]⟩] 25))
 clear hx
 go_enter Tryz.func87,Tryz.ntmps87
 go_wp2_with fail
 refine (fromInt_any x x1 x2 _).mono ?_
 rintro e w1 ⟨rfl,hb1⟩
 rw [HX.out]
 have K3:=Lib.hid (KR.out.next hb1)
 have B3:=Lib.hid (below_step HB.out (Nat.le_refl _) hb1)
 obtain ⟨t0,t1,t2,t3⟩:=blk4 K3.out.k
 obtain ⟨f0,f1,f2,f3⟩:=fro4 K3.out.k
 clear hb1
 go_wp2
 exact bodyPost_ret (v:=.agg #[.bool b,.string m,.bool false,.string ⟨#[]⟩]) (by simp [results,Tryz.results87,go_sem,t0,t1,t2,t3]) rfl ⟨rfl,below_set4 B3.out (Nat.le_refl _) _ _ _ _⟩

theorem canon_form {b:Bool} {m:ByteArray} (h:canonB b m=true):∃ x,enc x=.agg #[.bool b,.string m]:=by
 refine ⟨ival b m,(enc_eq ⟨?_,?_⟩ rfl).symm⟩
 · intro h0
   unfold canonB at h
   rw [dif_pos h0] at h
   simpa using h
 · intro h0
   unfold canonB at h
   rw [dif_neg (by omega)] at h
   simpa using h
theorem canon_yes {x:Int} {b:Bool} {m:ByteArray} (h:enc x=.agg #[.bool b,.string m]):canonB b m=true:=by
 have h1:=canon_enc h
 unfold checkV at h1
 cases hc:canonB b m
 · rw [hc] at h1;cases h1
 · rfl

set_option maxHeartbeats 1000000 in
set_option maxRecDepth 100000 in
theorem isInt_any (neg:Bool) (s:ByteArray) (w:World) :
  Calls Tryz.prog 66 #[.agg #[.bool neg,.string s]] w (RetB w (.bool (canonB neg s))):=by
 by_cases h:0<s.size
 · have hv:canonB neg s=((s[0]'h).toNat != 0):=by unfold canonB;rw [dif_pos h]
   have he:=empty_no h
   rw [hv]
   clear hv
   have HB:=Lib.hid (below_new w (.cells #[.bool neg,.string s] 23))
   go_enter Tryz.func66,Tryz.ntmps66
   go_wp2
   go_ret
   refine ⟨?_,HB.out⟩
   have hb:(((s[0]'h).toNat:Int) != 0)=((s[0]'h).toNat != 0):=by rw [Bool.eq_iff_iff];simp
   exact congrArg (fun b=>Ending.returned (.bool b)) hb
 · have hv:canonB neg s=!neg:=by unfold canonB;rw [dif_neg h]
   have he:=empty_yes h
   have h0:s.size=0:=by omega
   rw [hv]
   clear hv
   have HB:=Lib.hid (below_new w (.cells #[.bool neg,.string s] 23))
   go_enter Tryz.func66,Tryz.ntmps66
   go_wp2
   go_ret
   exact ⟨rfl,HB.out⟩

end Go.Proofs.YtdbhahiieokplaaGreatDoor


namespace Go.Proofs.YtdbhahiieokplaaGreatDoor
open Go.RowKit

inductive At {α:Type}:List α→Nat→α→Prop
 | here {x:α} {l:List α}:At (x :: l) 0 x
 | there {x y:α} {l:List α} {i:Nat} (h:At l i x):At (y :: l) (i+1) x
theorem lk {p:Prop} (h:p:=by repeat (with_reducible first | exact At.here | exact At.last | apply At.there | apply At.left)):p:=h
theorem At.get {α:Type} {l:List α} {i:Nat} {x:α} (h:At l i x):l[i]?=some x:=by
 induction h with
 | here=>rfl
 | there _ ih=>simpa using ih
theorem At.left {α:Type} {l l':List α} {i:Nat} {x:α} (h:At l i x):At (l++l') i x:=by
 induction h with
 | here=>exact At.here
 | there _ ih=>exact At.there ih
theorem At.last {α:Type} {x:α}:∀ {l:List α},At (l++[x]) l.length x
 | []=>At.here
 | _ :: _=>At.there At.last
def puts (W:World) (g:Nat):Nat→List Value→World
 | _,[]=>W
 | k,y :: ys=>puts (W.setCell ⟨g,k,none⟩ y) g (k+1) ys
def sets (cs:Array Value):Nat→List Value→Array Value
 | _,[]=>cs
 | k,y :: ys=>sets (cs.setIfInBounds k y) (k+1) ys
theorem puts_at {g:Nat} {T:TypeId}:∀ (ys:List Value) (k:Nat) (cs:Array Value) (W:World),W.heap[g]?=some (.cells cs T (0,0))→(puts W g k ys).heap[g]?=some (.cells (sets cs k ys) T (0,0))
 | [],_,_,_,h=>h
 | y :: ys,k,cs,W,h=>puts_at ys (k+1) _ _ (by simp [World.setCell,Array.getElem?_modify,h])
theorem puts_oth {g:Nat}:∀ (ys:List Value) (k:Nat) (W:World) (j:Nat),j≠g→(puts W g k ys).heap[j]?=W.heap[j]?
 | [],_,_,_,_=>rfl
 | y :: ys,k,W,j,h=>(puts_oth ys (k+1) _ j h).trans (Below.heap_setCell W ⟨g,k,none⟩ y j h)
theorem puts_size {g:Nat}:∀ (ys:List Value) (k:Nat) (W:World),(puts W g k ys).heap.size=W.heap.size
 | [],_,_=>rfl
 | y :: ys,k,W=>(puts_size ys (k+1) _).trans (by simp [World.setCell])
theorem puts_below {B g:Nat} (hB:B≤g):∀ (ys:List Value) (k:Nat) (a W:World),Below B a W→Below B a (puts W g k ys)
 | [],_,_,_,h=>h
 | y :: ys,k,a,W,h=>puts_below hB ys (k+1) a _ (h.setCell (p:=⟨g,k,none⟩) hB y)
section
variable {w W:World} {l:List (Nat×Array Value×TypeId)} {rs:List (Option Addr×Nat×Nat×Nat)} {g:Nat} {T:TypeId}
theorem Sb.puts (h:Sb w l rs W) {i:Nat} {cs:Array Value} (hl:l[i]?=some (g,cs,T)) (ys:List Value) (he:sets cs 0 ys=ys.toArray):Sb w (l.set i (g,ys.toArray,T)) rs (puts W g 0 ys):=by
 have hm:=List.mem_of_getElem? hl
 refine h.put hl ?_ (fun k hk=>puts_oth ys 0 W k hk) (Nat.le_of_eq (puts_size ys 0 W).symm) (puts_below (h.lo _ hm) ys 0 W W (Below.refl _ _))
 rw [←he]
 exact puts_at ys 0 cs W (h.k _ hm)
theorem Sb.init3 {l2 l3 l4:List (Nat×Array Value×TypeId)} (h:Sb w (((l++l2)++l3)++l4) rs W):Sb w l [] W:=h.init.init.init
theorem Sb.fnd (h:Sb w l rs W) {i:Nat} {cs:Array Value} (hl:At l i (g,cs,T)):W.heap[g]?=some (.cells cs T (0,0)):=h.k (g,cs,T) (List.mem_of_getElem? hl.get)
theorem nf1 (X:Sb w l rs W) {i k:Nat} {xs:List Value} {y:Value} (hl:At l i (g,xs.toArray,T)):Sb w (l.set i (g,(xs.set k y).toArray,T)) rs (W.setCell ⟨g,k,none⟩ y):=by
 have hm:=List.mem_of_getElem? hl.get
 refine X.put hl.get ?_ (fun j hj=>Below.heap_setCell W ⟨g,k,none⟩ y j hj) (Nat.le_of_eq (by simp [World.setCell])) ((Below.refl _ _).setCell (p:=⟨g,k,none⟩) (X.lo _ hm) y)
 have h:=X.k _ hm
 simp [World.setCell,Array.getElem?_modify,h]
theorem sf1 {M:World→Prop} (X:Sb w l rs W) {i k:Nat} {xs:List Value} {y:Value} (hl:At l i (g,xs.toArray,T)) (h:∀ V,Sb w (l.set i (g,(xs.set k y).toArray,T)) rs V→M V):M (W.setCell ⟨g,k,none⟩ y):=h _ (nf1 X hl)
theorem kf1 {a':Act} {K C:Act→World→Prop} {c:World→Prop} (hK:Shut (∀ a' w',c w'→C a' w'→K a' w')) (X:Sb w l rs W) {i k:Nat} {xs:List Value} {y:Value} (hl:At l i (g,xs.toArray,T)) (hc:∀ V,Sb w (l.set i (g,(xs.set k y).toArray,T)) rs V→c V) (h:∀ V,Sb w (l.set i (g,(xs.set k y).toArray,T)) rs V→C a' V):K a' (W.setCell ⟨g,k,none⟩ y):=hK.out _ _ (hc _ (nf1 X hl)) (h _ (nf1 X hl))
theorem nf2 (X:Sb w l rs W) {i:Nat} {x0 x1 y0 y1:Value} (hl:At l i (g,#[x0,x1],T)):Sb w (l.set i (g,#[y0,y1],T)) rs ((W.setCell ⟨g,0,none⟩ y0).setCell ⟨g,1,none⟩ y1):=by have h1:=X.puts hl.get [y0,y1] (by simp [sets]);simp only [puts,Nat.reduceAdd] at h1;exact h1
theorem sf2 {M:World→Prop} (X:Sb w l rs W) {i:Nat} {x0 x1 y0 y1:Value} (hl:At l i (g,#[x0,x1],T)) (h:∀ V,Sb w (l.set i (g,#[y0,y1],T)) rs V→M V):M ((W.setCell ⟨g,0,none⟩ y0).setCell ⟨g,1,none⟩ y1):=h _ (nf2 X hl)
theorem kf2 {a':Act} {K C:Act→World→Prop} {c:World→Prop} (hK:Shut (∀ a' w',c w'→C a' w'→K a' w')) (X:Sb w l rs W) {i:Nat} {x0 x1 y0 y1:Value} (hl:At l i (g,#[x0,x1],T)) (hc:∀ V,Sb w (l.set i (g,#[y0,y1],T)) rs V→c V) (h:∀ V,Sb w (l.set i (g,#[y0,y1],T)) rs V→C a' V):K a' ((W.setCell ⟨g,0,none⟩ y0).setCell ⟨g,1,none⟩ y1):=hK.out _ _ (hc _ (nf2 X hl)) (h _ (nf2 X hl))
theorem nf4 (X:Sb w l rs W) {i:Nat} {x0 x1 x2 x3 y0 y1 y2 y3:Value} (hl:At l i (g,#[x0,x1,x2,x3],T)):Sb w (l.set i (g,#[y0,y1,y2,y3],T)) rs ((((W.setCell ⟨g,0,none⟩ y0).setCell ⟨g,1,none⟩ y1).setCell ⟨g,2,none⟩ y2).setCell ⟨g,3,none⟩ y3):=by have h1:=X.puts hl.get [y0,y1,y2,y3] (by simp [sets]);simp only [puts,Nat.reduceAdd] at h1;exact h1
theorem sf4 {M:World→Prop} (X:Sb w l rs W) {i:Nat} {x0 x1 x2 x3 y0 y1 y2 y3:Value} (hl:At l i (g,#[x0,x1,x2,x3],T)) (h:∀ V,Sb w (l.set i (g,#[y0,y1,y2,y3],T)) rs V→M V):M ((((W.setCell ⟨g,0,none⟩ y0).setCell ⟨g,1,none⟩ y1).setCell ⟨g,2,none⟩ y2).setCell ⟨g,3,none⟩ y3):=h _ (nf4 X hl)
theorem kf4 {a':Act} {K C:Act→World→Prop} {c:World→Prop} (hK:Shut (∀ a' w',c w'→C a' w'→K a' w')) (X:Sb w l rs W) {i:Nat} {x0 x1 x2 x3 y0 y1 y2 y3:Value} (hl:At l i (g,#[x0,x1,x2,x3],T)) (hc:∀ V,Sb w (l.set i (g,#[y0,y1,y2,y3],T)) rs V→c V) (h:∀ V,Sb w (l.set i (g,#[y0,y1,y2,y3],T)) rs V→C a' V):K a' ((((W.setCell ⟨g,0,none⟩ y0).setCell ⟨g,1,none⟩ y1).setCell ⟨g,2,none⟩ y2).setCell ⟨g,3,none⟩ y3):=hK.out _ _ (hc _ (nf4 X hl)) (h _ (nf4 X hl))
theorem nf8 (X:Sb w l rs W) {i:Nat} {x0 x1 x2 x3 x4 x5 x6 x7 y0 y1 y2 y3 y4 y5 y6 y7:Value} (hl:At l i (g,#[x0,x1,x2,x3,x4,x5,x6,x7],T)):Sb w (l.set i (g,#[y0,y1,y2,y3,y4,y5,y6,y7],T)) rs ((((((((W.setCell ⟨g,0,none⟩ y0).setCell ⟨g,1,none⟩ y1).setCell ⟨g,2,none⟩ y2).setCell ⟨g,3,none⟩ y3).setCell ⟨g,4,none⟩ y4).setCell ⟨g,5,none⟩ y5).setCell ⟨g,6,none⟩ y6).setCell ⟨g,7,none⟩ y7):=by have h1:=X.puts hl.get [y0,y1,y2,y3,y4,y5,y6,y7] (by simp [sets]);simp only [puts,Nat.reduceAdd] at h1;exact h1
theorem sf8 {M:World→Prop} (X:Sb w l rs W) {i:Nat} {x0 x1 x2 x3 x4 x5 x6 x7 y0 y1 y2 y3 y4 y5 y6 y7:Value} (hl:At l i (g,#[x0,x1,x2,x3,x4,x5,x6,x7],T)) (h:∀ V,Sb w (l.set i (g,#[y0,y1,y2,y3,y4,y5,y6,y7],T)) rs V→M V):M ((((((((W.setCell ⟨g,0,none⟩ y0).setCell ⟨g,1,none⟩ y1).setCell ⟨g,2,none⟩ y2).setCell ⟨g,3,none⟩ y3).setCell ⟨g,4,none⟩ y4).setCell ⟨g,5,none⟩ y5).setCell ⟨g,6,none⟩ y6).setCell ⟨g,7,none⟩ y7):=h _ (nf8 X hl)
theorem kf8 {a':Act} {K C:Act→World→Prop} {c:World→Prop} (hK:Shut (∀ a' w',c w'→C a' w'→K a' w')) (X:Sb w l rs W) {i:Nat} {x0 x1 x2 x3 x4 x5 x6 x7 y0 y1 y2 y3 y4 y5 y6 y7:Value} (hl:At l i (g,#[x0,x1,x2,x3,x4,x5,x6,x7],T)) (hc:∀ V,Sb w (l.set i (g,#[y0,y1,y2,y3,y4,y5,y6,y7],T)) rs V→c V) (h:∀ V,Sb w (l.set i (g,#[y0,y1,y2,y3,y4,y5,y6,y7],T)) rs V→C a' V):K a' ((((((((W.setCell ⟨g,0,none⟩ y0).setCell ⟨g,1,none⟩ y1).setCell ⟨g,2,none⟩ y2).setCell ⟨g,3,none⟩ y3).setCell ⟨g,4,none⟩ y4).setCell ⟨g,5,none⟩ y5).setCell ⟨g,6,none⟩ y6).setCell ⟨g,7,none⟩ y7):=hK.out _ _ (hc _ (nf8 X hl)) (h _ (nf8 X hl))
theorem nf9 (X:Sb w l rs W) {i:Nat} {x0 x1 x2 x3 x4 x5 x6 x7 x8 y0 y1 y2 y3 y4 y5 y6 y7 y8:Value} (hl:At l i (g,#[x0,x1,x2,x3,x4,x5,x6,x7,x8],T)):Sb w (l.set i (g,#[y0,y1,y2,y3,y4,y5,y6,y7,y8],T)) rs (((((((((W.setCell ⟨g,0,none⟩ y0).setCell ⟨g,1,none⟩ y1).setCell ⟨g,2,none⟩ y2).setCell ⟨g,3,none⟩ y3).setCell ⟨g,4,none⟩ y4).setCell ⟨g,5,none⟩ y5).setCell ⟨g,6,none⟩ y6).setCell ⟨g,7,none⟩ y7).setCell ⟨g,8,none⟩ y8):=by have h1:=X.puts hl.get [y0,y1,y2,y3,y4,y5,y6,y7,y8] (by simp [sets]);simp only [puts,Nat.reduceAdd] at h1;exact h1
theorem sf9 {M:World→Prop} (X:Sb w l rs W) {i:Nat} {x0 x1 x2 x3 x4 x5 x6 x7 x8 y0 y1 y2 y3 y4 y5 y6 y7 y8:Value} (hl:At l i (g,#[x0,x1,x2,x3,x4,x5,x6,x7,x8],T)) (h:∀ V,Sb w (l.set i (g,#[y0,y1,y2,y3,y4,y5,y6,y7,y8],T)) rs V→M V):M (((((((((W.setCell ⟨g,0,none⟩ y0).setCell ⟨g,1,none⟩ y1).setCell ⟨g,2,none⟩ y2).setCell ⟨g,3,none⟩ y3).setCell ⟨g,4,none⟩ y4).setCell ⟨g,5,none⟩ y5).setCell ⟨g,6,none⟩ y6).setCell ⟨g,7,none⟩ y7).setCell ⟨g,8,none⟩ y8):=h _ (nf9 X hl)
theorem kf9 {a':Act} {K C:Act→World→Prop} {c:World→Prop} (hK:Shut (∀ a' w',c w'→C a' w'→K a' w')) (X:Sb w l rs W) {i:Nat} {x0 x1 x2 x3 x4 x5 x6 x7 x8 y0 y1 y2 y3 y4 y5 y6 y7 y8:Value} (hl:At l i (g,#[x0,x1,x2,x3,x4,x5,x6,x7,x8],T)) (hc:∀ V,Sb w (l.set i (g,#[y0,y1,y2,y3,y4,y5,y6,y7,y8],T)) rs V→c V) (h:∀ V,Sb w (l.set i (g,#[y0,y1,y2,y3,y4,y5,y6,y7,y8],T)) rs V→C a' V):K a' (((((((((W.setCell ⟨g,0,none⟩ y0).setCell ⟨g,1,none⟩ y1).setCell ⟨g,2,none⟩ y2).setCell ⟨g,3,none⟩ y3).setCell ⟨g,4,none⟩ y4).setCell ⟨g,5,none⟩ y5).setCell ⟨g,6,none⟩ y6).setCell ⟨g,7,none⟩ y7).setCell ⟨g,8,none⟩ y8):=hK.out _ _ (hc _ (nf9 X hl)) (h _ (nf9 X hl))
theorem nf12 (X:Sb w l rs W) {i:Nat} {x0 x1 x2 x3 x4 x5 x6 x7 x8 x9 x10 x11 y0 y1 y2 y3 y4 y5 y6 y7 y8 y9 y10 y11:Value} (hl:At l i (g,#[x0,x1,x2,x3,x4,x5,x6,x7,x8,x9,x10,x11],T)):Sb w (l.set i (g,#[y0,y1,y2,y3,y4,y5,y6,y7,y8,y9,y10,y11],T)) rs ((((((((((((W.setCell ⟨g,0,none⟩ y0).setCell ⟨g,1,none⟩ y1).setCell ⟨g,2,none⟩ y2).setCell ⟨g,3,none⟩ y3).setCell ⟨g,4,none⟩ y4).setCell ⟨g,5,none⟩ y5).setCell ⟨g,6,none⟩ y6).setCell ⟨g,7,none⟩ y7).setCell ⟨g,8,none⟩ y8).setCell ⟨g,9,none⟩ y9).setCell ⟨g,10,none⟩ y10).setCell ⟨g,11,none⟩ y11):=by have h1:=X.puts hl.get [y0,y1,y2,y3,y4,y5,y6,y7,y8,y9,y10,y11] (by simp [sets]);simp only [puts,Nat.reduceAdd] at h1;exact h1
theorem sf12 {M:World→Prop} (X:Sb w l rs W) {i:Nat} {x0 x1 x2 x3 x4 x5 x6 x7 x8 x9 x10 x11 y0 y1 y2 y3 y4 y5 y6 y7 y8 y9 y10 y11:Value} (hl:At l i (g,#[x0,x1,x2,x3,x4,x5,x6,x7,x8,x9,x10,x11],T)) (h:∀ V,Sb w (l.set i (g,#[y0,y1,y2,y3,y4,y5,y6,y7,y8,y9,y10,y11],T)) rs V→M V):M ((((((((((((W.setCell ⟨g,0,none⟩ y0).setCell ⟨g,1,none⟩ y1).setCell ⟨g,2,none⟩ y2).setCell ⟨g,3,none⟩ y3).setCell ⟨g,4,none⟩ y4).setCell ⟨g,5,none⟩ y5).setCell ⟨g,6,none⟩ y6).setCell ⟨g,7,none⟩ y7).setCell ⟨g,8,none⟩ y8).setCell ⟨g,9,none⟩ y9).setCell ⟨g,10,none⟩ y10).setCell ⟨g,11,none⟩ y11):=h _ (nf12 X hl)
theorem kf12 {a':Act} {K C:Act→World→Prop} {c:World→Prop} (hK:Shut (∀ a' w',c w'→C a' w'→K a' w')) (X:Sb w l rs W) {i:Nat} {x0 x1 x2 x3 x4 x5 x6 x7 x8 x9 x10 x11 y0 y1 y2 y3 y4 y5 y6 y7 y8 y9 y10 y11:Value} (hl:At l i (g,#[x0,x1,x2,x3,x4,x5,x6,x7,x8,x9,x10,x11],T)) (hc:∀ V,Sb w (l.set i (g,#[y0,y1,y2,y3,y4,y5,y6,y7,y8,y9,y10,y11],T)) rs V→c V) (h:∀ V,Sb w (l.set i (g,#[y0,y1,y2,y3,y4,y5,y6,y7,y8,y9,y10,y11],T)) rs V→C a' V):K a' ((((((((((((W.setCell ⟨g,0,none⟩ y0).setCell ⟨g,1,none⟩ y1).setCell ⟨g,2,none⟩ y2).setCell ⟨g,3,none⟩ y3).setCell ⟨g,4,none⟩ y4).setCell ⟨g,5,none⟩ y5).setCell ⟨g,6,none⟩ y6).setCell ⟨g,7,none⟩ y7).setCell ⟨g,8,none⟩ y8).setCell ⟨g,9,none⟩ y9).setCell ⟨g,10,none⟩ y10).setCell ⟨g,11,none⟩ y11):=hK.out _ _ (hc _ (nf12 X hl)) (h _ (nf12 X hl))
theorem nf16 (X:Sb w l rs W) {i:Nat} {x0 x1 x2 x3 x4 x5 x6 x7 x8 x9 x10 x11 x12 x13 x14 x15 y0 y1 y2 y3 y4 y5 y6 y7 y8 y9 y10 y11 y12 y13 y14 y15:Value} (hl:At l i (g,#[x0,x1,x2,x3,x4,x5,x6,x7,x8,x9,x10,x11,x12,x13,x14,x15],T)):Sb w (l.set i (g,#[y0,y1,y2,y3,y4,y5,y6,y7,y8,y9,y10,y11,y12,y13,y14,y15],T)) rs ((((((((((((((((W.setCell ⟨g,0,none⟩ y0).setCell ⟨g,1,none⟩ y1).setCell ⟨g,2,none⟩ y2).setCell ⟨g,3,none⟩ y3).setCell ⟨g,4,none⟩ y4).setCell ⟨g,5,none⟩ y5).setCell ⟨g,6,none⟩ y6).setCell ⟨g,7,none⟩ y7).setCell ⟨g,8,none⟩ y8).setCell ⟨g,9,none⟩ y9).setCell ⟨g,10,none⟩ y10).setCell ⟨g,11,none⟩ y11).setCell ⟨g,12,none⟩ y12).setCell ⟨g,13,none⟩ y13).setCell ⟨g,14,none⟩ y14).setCell ⟨g,15,none⟩ y15):=by have h1:=X.puts hl.get [y0,y1,y2,y3,y4,y5,y6,y7,y8,y9,y10,y11,y12,y13,y14,y15] (by simp [sets]);simp only [puts,Nat.reduceAdd] at h1;exact h1
theorem sf16 {M:World→Prop} (X:Sb w l rs W) {i:Nat} {x0 x1 x2 x3 x4 x5 x6 x7 x8 x9 x10 x11 x12 x13 x14 x15 y0 y1 y2 y3 y4 y5 y6 y7 y8 y9 y10 y11 y12 y13 y14 y15:Value} (hl:At l i (g,#[x0,x1,x2,x3,x4,x5,x6,x7,x8,x9,x10,x11,x12,x13,x14,x15],T)) (h:∀ V,Sb w (l.set i (g,#[y0,y1,y2,y3,y4,y5,y6,y7,y8,y9,y10,y11,y12,y13,y14,y15],T)) rs V→M V):M ((((((((((((((((W.setCell ⟨g,0,none⟩ y0).setCell ⟨g,1,none⟩ y1).setCell ⟨g,2,none⟩ y2).setCell ⟨g,3,none⟩ y3).setCell ⟨g,4,none⟩ y4).setCell ⟨g,5,none⟩ y5).setCell ⟨g,6,none⟩ y6).setCell ⟨g,7,none⟩ y7).setCell ⟨g,8,none⟩ y8).setCell ⟨g,9,none⟩ y9).setCell ⟨g,10,none⟩ y10).setCell ⟨g,11,none⟩ y11).setCell ⟨g,12,none⟩ y12).setCell ⟨g,13,none⟩ y13).setCell ⟨g,14,none⟩ y14).setCell ⟨g,15,none⟩ y15):=h _ (nf16 X hl)
theorem kf16 {a':Act} {K C:Act→World→Prop} {c:World→Prop} (hK:Shut (∀ a' w',c w'→C a' w'→K a' w')) (X:Sb w l rs W) {i:Nat} {x0 x1 x2 x3 x4 x5 x6 x7 x8 x9 x10 x11 x12 x13 x14 x15 y0 y1 y2 y3 y4 y5 y6 y7 y8 y9 y10 y11 y12 y13 y14 y15:Value} (hl:At l i (g,#[x0,x1,x2,x3,x4,x5,x6,x7,x8,x9,x10,x11,x12,x13,x14,x15],T)) (hc:∀ V,Sb w (l.set i (g,#[y0,y1,y2,y3,y4,y5,y6,y7,y8,y9,y10,y11,y12,y13,y14,y15],T)) rs V→c V) (h:∀ V,Sb w (l.set i (g,#[y0,y1,y2,y3,y4,y5,y6,y7,y8,y9,y10,y11,y12,y13,y14,y15],T)) rs V→C a' V):K a' ((((((((((((((((W.setCell ⟨g,0,none⟩ y0).setCell ⟨g,1,none⟩ y1).setCell ⟨g,2,none⟩ y2).setCell ⟨g,3,none⟩ y3).setCell ⟨g,4,none⟩ y4).setCell ⟨g,5,none⟩ y5).setCell ⟨g,6,none⟩ y6).setCell ⟨g,7,none⟩ y7).setCell ⟨g,8,none⟩ y8).setCell ⟨g,9,none⟩ y9).setCell ⟨g,10,none⟩ y10).setCell ⟨g,11,none⟩ y11).setCell ⟨g,12,none⟩ y12).setCell ⟨g,13,none⟩ y13).setCell ⟨g,14,none⟩ y14).setCell ⟨g,15,none⟩ y15):=hK.out _ _ (hc _ (nf16 X hl)) (h _ (nf16 X hl))
theorem gs0 {M:World→Prop}  (h:∀ V,Sb w [] [] V→M V):M w:=h _ ((Sb.start w))
theorem gs1 {M:World→Prop} {c0:Array Value} {t0:TypeId} (h:∀ V,Sb w [(w.heap.size,c0,t0)] [] V→M V):M (w.alloc (.cells c0 t0)):=h _ (((Sb.start w).new c0 t0).pick [0] _ [] (by simp) (by decide) (by simp))
theorem gs2 {M:World→Prop} {c0:Array Value} {t0:TypeId} {c1:Array Value} {t1:TypeId} (h:∀ V,Sb w [(w.heap.size,c0,t0),(w.heap.size+1,c1,t1)] [] V→M V):M ((w.alloc (.cells c0 t0)).alloc (.cells c1 t1)):=h _ ((((Sb.start w).new c0 t0).new c1 t1).pick [0,1] _ [] (by simp) (by decide) (by simp))
theorem gs3 {M:World→Prop} {c0:Array Value} {t0:TypeId} {c1:Array Value} {t1:TypeId} {c2:Array Value} {t2:TypeId} (h:∀ V,Sb w [(w.heap.size,c0,t0),(w.heap.size+1,c1,t1),(w.heap.size+1+1,c2,t2)] [] V→M V):M (((w.alloc (.cells c0 t0)).alloc (.cells c1 t1)).alloc (.cells c2 t2)):=h _ (((((Sb.start w).new c0 t0).new c1 t1).new c2 t2).pick [0,1,2] _ [] (by simp) (by decide) (by simp))
theorem gs4 {M:World→Prop} {c0:Array Value} {t0:TypeId} {c1:Array Value} {t1:TypeId} {c2:Array Value} {t2:TypeId} {c3:Array Value} {t3:TypeId} (h:∀ V,Sb w [(w.heap.size,c0,t0),(w.heap.size+1,c1,t1),(w.heap.size+1+1,c2,t2),(w.heap.size+1+1+1,c3,t3)] [] V→M V):M ((((w.alloc (.cells c0 t0)).alloc (.cells c1 t1)).alloc (.cells c2 t2)).alloc (.cells c3 t3)):=h _ ((((((Sb.start w).new c0 t0).new c1 t1).new c2 t2).new c3 t3).pick [0,1,2,3] _ [] (by simp) (by decide) (by simp))
theorem gs5 {M:World→Prop} {c0:Array Value} {t0:TypeId} {c1:Array Value} {t1:TypeId} {c2:Array Value} {t2:TypeId} {c3:Array Value} {t3:TypeId} {c4:Array Value} {t4:TypeId} (h:∀ V,Sb w [(w.heap.size,c0,t0),(w.heap.size+1,c1,t1),(w.heap.size+1+1,c2,t2),(w.heap.size+1+1+1,c3,t3),(w.heap.size+1+1+1+1,c4,t4)] [] V→M V):M (((((w.alloc (.cells c0 t0)).alloc (.cells c1 t1)).alloc (.cells c2 t2)).alloc (.cells c3 t3)).alloc (.cells c4 t4)):=h _ (((((((Sb.start w).new c0 t0).new c1 t1).new c2 t2).new c3 t3).new c4 t4).pick [0,1,2,3,4] _ [] (by simp) (by decide) (by simp))
theorem gs6 {M:World→Prop} {c0:Array Value} {t0:TypeId} {c1:Array Value} {t1:TypeId} {c2:Array Value} {t2:TypeId} {c3:Array Value} {t3:TypeId} {c4:Array Value} {t4:TypeId} {c5:Array Value} {t5:TypeId} (h:∀ V,Sb w [(w.heap.size,c0,t0),(w.heap.size+1,c1,t1),(w.heap.size+1+1,c2,t2),(w.heap.size+1+1+1,c3,t3),(w.heap.size+1+1+1+1,c4,t4),(w.heap.size+1+1+1+1+1,c5,t5)] [] V→M V):M ((((((w.alloc (.cells c0 t0)).alloc (.cells c1 t1)).alloc (.cells c2 t2)).alloc (.cells c3 t3)).alloc (.cells c4 t4)).alloc (.cells c5 t5)):=h _ ((((((((Sb.start w).new c0 t0).new c1 t1).new c2 t2).new c3 t3).new c4 t4).new c5 t5).pick [0,1,2,3,4,5] _ [] (by simp) (by decide) (by simp))
end
theorem ke {w:World} (hE:Env w) {p:World→Prop} (h:∀ V,Env V→p V):Hid (∀ V,Below w.heap.size w V→p V):=Lib.hid fun V hb=>h V (hE.next hb)
theorem kn (w:World) {p:World→Prop} (h:∀ V,p V):Hid (∀ V,Below w.heap.size w V→p V):=Lib.hid fun V _=>h V

section
variable {P:Program} {ops:Array Oper} {Q:Exit→Act→World→Prop} {md:Region.Mode} {S:World→Prop} {L:List Nat} {i j k m:Nat} {o o1 o2 o3:Oper} {fuel:Nat} {listed:Array Bool} {a:Act} {w:World}
theorem four (_hf:rdy ops listed=[i,j,k,m]) (ho:ops[i]?=some o) (ho1:ops[j]?=some o1) (ho2:ops[k]?=some o2) (ho3:ops[m]?=some o3) (hr:Region.ready md ops listed=[i,j,k,m])
  (h:(∀ K':Act→World→Prop,Shut (∀ a' w',(L.contains i=true∨(S w→S w'))→wpLate P md ops Q S L fuel (listed.setIfInBounds i true) a' w'→K' a' w')→if Region.wanted o (yielded ops a.tmps)=true then Oper.wp P o a w K' Q else K' (a.put o.dst undef) w)) (h1:(∀ K':Act→World→Prop,Shut (∀ a' w',(L.contains j=true∨(S w→S w'))→wpLate P md ops Q S L fuel (listed.setIfInBounds j true) a' w'→K' a' w')→if Region.wanted o1 (yielded ops a.tmps)=true then Oper.wp P o1 a w K' Q else K' (a.put o1.dst undef) w)) (h2:(∀ K':Act→World→Prop,Shut (∀ a' w',(L.contains k=true∨(S w→S w'))→wpLate P md ops Q S L fuel (listed.setIfInBounds k true) a' w'→K' a' w')→if Region.wanted o2 (yielded ops a.tmps)=true then Oper.wp P o2 a w K' Q else K' (a.put o2.dst undef) w)) (h3:(∀ K':Act→World→Prop,Shut (∀ a' w',(L.contains m=true∨(S w→S w'))→wpLate P md ops Q S L fuel (listed.setIfInBounds m true) a' w'→K' a' w')→if Region.wanted o3 (yielded ops a.tmps)=true then Oper.wp P o3 a w K' Q else K' (a.put o3.dst undef) w)) :
  wpLate P md ops Q S L (fuel+1) listed a w:=by
 refine ⟨fun h0=>(by rw [h0] at hr;cases hr),fun n hn=>?_⟩
 rw [hr] at hn
 rcases (by simpa using hn:n=i∨n=j∨n=k∨n=m) with rfl | rfl | rfl | rfl
 · exact wpOp_step ho (fun K' hK=>h K' (fun a w hS hW=>hK a w ⟨hS,hW⟩))
 · exact wpOp_step ho1 (fun K' hK=>h1 K' (fun a w hS hW=>hK a w ⟨hS,hW⟩))
 · exact wpOp_step ho2 (fun K' hK=>h2 K' (fun a w hS hW=>hK a w ⟨hS,hW⟩))
 · exact wpOp_step ho3 (fun K' hK=>h3 K' (fun a w hS hW=>hK a w ⟨hS,hW⟩))
end
def ldB:List Oper→List Nat→List Nat
 | o :: os,k :: ks=>match o.op with
   | .load ..=>k :: ldB os ks
   | _=>ldB os ks
 | _,_=>[]
def stW (ops:Array Oper):List Nat:=(stB ops.toList ids).filter fun j=>(ldB ops.toList ids).all fun i=>waits .any ops i ops.size j
theorem late_inF {P:Program} {ops:Array Oper} {Q:Exit→Act→World→Prop} {id:Nat} {a:Act} {w W:World} {l:List (Nat×Array Value×TypeId)} {rs:List (Option Addr×Nat×Nat×Nat)} {L:List Nat} (X:Sb w l rs W) (_hL:stW ops=L) (hm:P.follows .mixedOrders=true)
 (h:∀ V,Sb w l rs V→wpLate P .any ops Q (fun V=>Sb w l [] V) L ops.size (Array.replicate ops.size false) a V):(Code.region id ops true).wp P Q a W:=wp_region_late hm (h _ X.drew)
theorem Sb.pre {w W:World} {l0 l:List (Nat×Array Value×TypeId)} {rs:List (Option Addr×Nat×Nat×Nat)} (h:Sb w l rs W) (t:List (Nat×Array Value×TypeId)) (e:l0++t=l):Sb w l0 [] W:=by
 subst e
 exact h.init
theorem wk {p:Prop} (h:p:=by
 go_wp2_with (first
  | exact Z1.out | exact Z2.out | exact Z3.out | exact Z4.out | exact Z5.out | exact Z6.out
  | ((first | (((with_reducible refine (show Calls _ _ _ _ _ from ?_));first | (with_reducible refine (C1.out _ X.out.bel).mono ?_) | (with_reducible refine (C2.out _ X.out.bel).mono ?_) | (with_reducible refine (C3.out _ X.out.bel).mono ?_) | (with_reducible refine (C4.out _ X.out.bel).mono ?_) | (with_reducible refine (C5.out _ X.out.bel).mono ?_) | (with_reducible refine (C6.out _ X.out.bel).mono ?_) | (with_reducible refine (C7.out _ X.out.bel).mono ?_) | (with_reducible refine (C8.out _ X.out.bel).mono ?_) | (with_reducible refine (C9.out _ X.out.bel).mono ?_) | (with_reducible refine (C10.out _ X.out.bel).mono ?_) | (with_reducible refine (C11.out _ X.out.bel).mono ?_) | (with_reducible refine (C12.out _ X.out.bel).mono ?_) | (with_reducible refine (C13.out _ X.out.bel).mono ?_) | (with_reducible refine (C14.out _ X.out.bel).mono ?_) | (with_reducible refine (C15.out _ X.out.bel).mono ?_) | (with_reducible refine (C16.out _ X.out.bel).mono ?_) | (with_reducible refine (C17.out _ X.out.bel).mono ?_) | (with_reducible refine (C18.out _ X.out.bel).mono ?_) | (with_reducible refine (C19.out _ X.out.bel).mono ?_) | (with_reducible refine (C20.out _ X.out.bel).mono ?_) | (with_reducible refine (C21.out _ X.out.bel).mono ?_) | (with_reducible refine (C22.out _ X.out.bel).mono ?_) | (with_reducible refine (C23.out _ X.out.bel).mono ?_) | (with_reducible refine (C24.out _ X.out.bel).mono ?_) | (with_reducible refine (C25.out _ X.out.bel).mono ?_) | (with_reducible refine (C26.out _ X.out.bel).mono ?_) | (with_reducible refine (C1.out _ X.out.bel (by first | assumption | omega)).mono ?_) | (with_reducible refine (C2.out _ X.out.bel (by first | assumption | omega)).mono ?_) | (with_reducible refine (C3.out _ X.out.bel (by first | assumption | omega)).mono ?_) | (with_reducible refine (C4.out _ X.out.bel (by first | assumption | omega)).mono ?_) | (with_reducible refine (C5.out _ X.out.bel (by first | assumption | omega)).mono ?_) | (with_reducible refine (C6.out _ X.out.bel (by first | assumption | omega)).mono ?_) | (with_reducible refine (C7.out _ X.out.bel (by first | assumption | omega)).mono ?_) | (with_reducible refine (C8.out _ X.out.bel (by first | assumption | omega)).mono ?_) | (with_reducible refine (C9.out _ X.out.bel (by first | assumption | omega)).mono ?_) | (with_reducible refine (C10.out _ X.out.bel (by first | assumption | omega)).mono ?_) | (with_reducible refine (C11.out _ X.out.bel (by first | assumption | omega)).mono ?_) | (with_reducible refine (C12.out _ X.out.bel (by first | assumption | omega)).mono ?_) | (with_reducible refine (C13.out _ X.out.bel (by first | assumption | omega)).mono ?_) | (with_reducible refine (C14.out _ X.out.bel (by first | assumption | omega)).mono ?_) | (with_reducible refine (C15.out _ X.out.bel (by first | assumption | omega)).mono ?_) | (with_reducible refine (C16.out _ X.out.bel (by first | assumption | omega)).mono ?_) | (with_reducible refine (C17.out _ X.out.bel (by first | assumption | omega)).mono ?_) | (with_reducible refine (C18.out _ X.out.bel (by first | assumption | omega)).mono ?_) | (with_reducible refine (C19.out _ X.out.bel (by first | assumption | omega)).mono ?_) | (with_reducible refine (C20.out _ X.out.bel (by first | assumption | omega)).mono ?_) | (with_reducible refine (C21.out _ X.out.bel (by first | assumption | omega)).mono ?_) | (with_reducible refine (C22.out _ X.out.bel (by first | assumption | omega)).mono ?_) | (with_reducible refine (C23.out _ X.out.bel (by first | assumption | omega)).mono ?_) | (with_reducible refine (C24.out _ X.out.bel (by first | assumption | omega)).mono ?_) | (with_reducible refine (C25.out _ X.out.bel (by first | assumption | omega)).mono ?_) | (with_reducible refine (C26.out _ X.out.bel (by first | assumption | omega)).mono ?_) | (with_reducible refine (C1.out _ X.out.bel _ (X.out.fnd lk)).mono ?_) | (with_reducible refine (C2.out _ X.out.bel _ (X.out.fnd lk)).mono ?_) | (with_reducible refine (C3.out _ X.out.bel _ (X.out.fnd lk)).mono ?_) | (with_reducible refine (C4.out _ X.out.bel _ (X.out.fnd lk)).mono ?_) | (with_reducible refine (C5.out _ X.out.bel _ (X.out.fnd lk)).mono ?_) | (with_reducible refine (C6.out _ X.out.bel _ (X.out.fnd lk)).mono ?_) | (with_reducible refine (C7.out _ X.out.bel _ (X.out.fnd lk)).mono ?_) | (with_reducible refine (C8.out _ X.out.bel _ (X.out.fnd lk)).mono ?_) | (with_reducible refine (C9.out _ X.out.bel _ (X.out.fnd lk)).mono ?_) | (with_reducible refine (C10.out _ X.out.bel _ (X.out.fnd lk)).mono ?_) | (with_reducible refine (C11.out _ X.out.bel _ (X.out.fnd lk)).mono ?_) | (with_reducible refine (C12.out _ X.out.bel _ (X.out.fnd lk)).mono ?_) | (with_reducible refine (C13.out _ X.out.bel _ (X.out.fnd lk)).mono ?_) | (with_reducible refine (C14.out _ X.out.bel _ (X.out.fnd lk)).mono ?_) | (with_reducible refine (C15.out _ X.out.bel _ (X.out.fnd lk)).mono ?_) | (with_reducible refine (C16.out _ X.out.bel _ (X.out.fnd lk)).mono ?_) | (with_reducible refine (C17.out _ X.out.bel _ (X.out.fnd lk)).mono ?_) | (with_reducible refine (C18.out _ X.out.bel _ (X.out.fnd lk)).mono ?_) | (with_reducible refine (C19.out _ X.out.bel _ (X.out.fnd lk)).mono ?_) | (with_reducible refine (C20.out _ X.out.bel _ (X.out.fnd lk)).mono ?_) | (with_reducible refine (C21.out _ X.out.bel _ (X.out.fnd lk)).mono ?_) | (with_reducible refine (C22.out _ X.out.bel _ (X.out.fnd lk)).mono ?_) | (with_reducible refine (C23.out _ X.out.bel _ (X.out.fnd lk)).mono ?_) | (with_reducible refine (C24.out _ X.out.bel _ (X.out.fnd lk)).mono ?_) | (with_reducible refine (C25.out _ X.out.bel _ (X.out.fnd lk)).mono ?_) | (with_reducible refine (C26.out _ X.out.bel _ (X.out.fnd lk)).mono ?_));rintro e u ⟨rfl,hb9⟩;have X0:=X.out.next hb9;clear hb9) | (with_reducible refine an X.out (fun V X0=>?_)) | (with_reducible refine sf2 X.out lk (fun V X0=>?_)) | (with_reducible refine sf4 X.out lk (fun V X0=>?_)) | (with_reducible refine sf8 X.out lk (fun V X0=>?_)) | (with_reducible refine sf9 X.out lk (fun V X0=>?_)) | (with_reducible refine sf12 X.out lk (fun V X0=>?_)) | (with_reducible refine sf16 X.out lk (fun V X0=>?_)) | (with_reducible refine sf1 X.out lk (fun V X0=>?_)));(try simp only [List.set_cons_zero,List.set_cons_succ,List.cons_append,List.nil_append,List.length_cons,List.length_nil] at X0);replace X:=Lib.hid X0;clear X0;replace F:=X.out.facts;simp only [Facts,cellsAt,List.take_succ_cons,List.take_zero,Nat.reduceAdd,and_true,List.set_cons_succ,List.set_cons_zero,List.cons_append,List.nil_append] at F)
  | exact U1.out | exact U2.out | exact U3.out | exact U4.out | exact U5.out | exact U6.out
  | (with_reducible refine late_inF X.out rfl ?_ ?_
     kernel_rfl
     intro V X0
     replace X:=Lib.hid X0
     clear X0 F
     repeat' (first
      | ((first
        | refine tkF (oi:=⟨some _,_,_,_,_,_⟩) rfl rfl (by kernel_rfl) (fun _ _ _ h=>h) (Or.inl ⟨by rfl,by intro w' _;first | (go_simp;done) | (go_simp;with_reducible rfl)⟩) ?_
        | refine tkN (oi:=⟨some _,_,_,_,_,_⟩) rfl rfl (by decide +kernel) (fun _ _ _ h=>h) (by first | exact X.out.pre _ rfl | exact X.out.bare | exact X.out.init | exact X.out.init2 | exact X.out.init3) (Or.inl ⟨by rfl,by intro w' hSw;have F:=hSw.facts;simp only [Facts,cellsAt,List.take_succ_cons,List.take_zero,Nat.reduceAdd,and_true,List.set_cons_succ,List.set_cons_zero,List.cons_append,List.nil_append] at F;first | (go_simp;done) | (go_simp;with_reducible rfl)⟩) ?_
        | refine tkG (oi:=⟨_,_,_,_,_,_⟩) rfl rfl (by kernel_rfl) (fun _ _ _ h=>h) (by rfl) ?_)
         (try simp only [Act.put,seti,set0,setS]))
      | ((first | refine one (o := ⟨_, _, _, _, _, _⟩) rfl rfl (by kernel_rfl) (fun K hK => ?_) | refine two (o := ⟨_, _, _, _, _, _⟩) (o' := ⟨_, _, _, _, _, _⟩) rfl rfl rfl (by kernel_rfl) (fun K hK => ?_) (fun K hK => ?_) | refine three (o := ⟨_, _, _, _, _, _⟩) (o' := ⟨_, _, _, _, _, _⟩) (o'' := ⟨_, _, _, _, _, _⟩) rfl rfl rfl rfl (by kernel_rfl) (fun K hK => ?_) (fun K hK => ?_) (fun K hK => ?_) | refine four (o := ⟨_, _, _, _, _, _⟩) (o1 := ⟨_, _, _, _, _, _⟩) (o2 := ⟨_, _, _, _, _, _⟩) (o3 := ⟨_, _, _, _, _, _⟩) rfl rfl rfl rfl rfl (by kernel_rfl) (fun K hK => ?_) (fun K hK => ?_) (fun K hK => ?_) (fun K hK => ?_))
         all_goals (have F:=X.out.facts;simp only [Facts,cellsAt,List.take_succ_cons,List.take_zero,Nat.reduceAdd,and_true,List.set_cons_succ,List.set_cons_zero,List.cons_append,List.nil_append] at F;go_simp;clear F;first
          | exact Y1.out | exact Y2.out
          | (((with_reducible refine (show Calls _ _ _ _ _ from ?_));first | (with_reducible refine (C1.out _ X.out.bel).mono ?_) | (with_reducible refine (C2.out _ X.out.bel).mono ?_) | (with_reducible refine (C3.out _ X.out.bel).mono ?_) | (with_reducible refine (C4.out _ X.out.bel).mono ?_) | (with_reducible refine (C5.out _ X.out.bel).mono ?_) | (with_reducible refine (C6.out _ X.out.bel).mono ?_) | (with_reducible refine (C7.out _ X.out.bel).mono ?_) | (with_reducible refine (C8.out _ X.out.bel).mono ?_) | (with_reducible refine (C9.out _ X.out.bel).mono ?_) | (with_reducible refine (C10.out _ X.out.bel).mono ?_) | (with_reducible refine (C11.out _ X.out.bel).mono ?_) | (with_reducible refine (C12.out _ X.out.bel).mono ?_) | (with_reducible refine (C13.out _ X.out.bel).mono ?_) | (with_reducible refine (C14.out _ X.out.bel).mono ?_) | (with_reducible refine (C15.out _ X.out.bel).mono ?_) | (with_reducible refine (C16.out _ X.out.bel).mono ?_) | (with_reducible refine (C17.out _ X.out.bel).mono ?_) | (with_reducible refine (C18.out _ X.out.bel).mono ?_) | (with_reducible refine (C19.out _ X.out.bel).mono ?_) | (with_reducible refine (C20.out _ X.out.bel).mono ?_) | (with_reducible refine (C21.out _ X.out.bel).mono ?_) | (with_reducible refine (C22.out _ X.out.bel).mono ?_) | (with_reducible refine (C23.out _ X.out.bel).mono ?_) | (with_reducible refine (C24.out _ X.out.bel).mono ?_) | (with_reducible refine (C25.out _ X.out.bel).mono ?_) | (with_reducible refine (C26.out _ X.out.bel).mono ?_) | (with_reducible refine (C1.out _ X.out.bel (by first | assumption | omega)).mono ?_) | (with_reducible refine (C2.out _ X.out.bel (by first | assumption | omega)).mono ?_) | (with_reducible refine (C3.out _ X.out.bel (by first | assumption | omega)).mono ?_) | (with_reducible refine (C4.out _ X.out.bel (by first | assumption | omega)).mono ?_) | (with_reducible refine (C5.out _ X.out.bel (by first | assumption | omega)).mono ?_) | (with_reducible refine (C6.out _ X.out.bel (by first | assumption | omega)).mono ?_) | (with_reducible refine (C7.out _ X.out.bel (by first | assumption | omega)).mono ?_) | (with_reducible refine (C8.out _ X.out.bel (by first | assumption | omega)).mono ?_) | (with_reducible refine (C9.out _ X.out.bel (by first | assumption | omega)).mono ?_) | (with_reducible refine (C10.out _ X.out.bel (by first | assumption | omega)).mono ?_) | (with_reducible refine (C11.out _ X.out.bel (by first | assumption | omega)).mono ?_) | (with_reducible refine (C12.out _ X.out.bel (by first | assumption | omega)).mono ?_) | (with_reducible refine (C13.out _ X.out.bel (by first | assumption | omega)).mono ?_) | (with_reducible refine (C14.out _ X.out.bel (by first | assumption | omega)).mono ?_) | (with_reducible refine (C15.out _ X.out.bel (by first | assumption | omega)).mono ?_) | (with_reducible refine (C16.out _ X.out.bel (by first | assumption | omega)).mono ?_) | (with_reducible refine (C17.out _ X.out.bel (by first | assumption | omega)).mono ?_) | (with_reducible refine (C18.out _ X.out.bel (by first | assumption | omega)).mono ?_) | (with_reducible refine (C19.out _ X.out.bel (by first | assumption | omega)).mono ?_) | (with_reducible refine (C20.out _ X.out.bel (by first | assumption | omega)).mono ?_) | (with_reducible refine (C21.out _ X.out.bel (by first | assumption | omega)).mono ?_) | (with_reducible refine (C22.out _ X.out.bel (by first | assumption | omega)).mono ?_) | (with_reducible refine (C23.out _ X.out.bel (by first | assumption | omega)).mono ?_) | (with_reducible refine (C24.out _ X.out.bel (by first | assumption | omega)).mono ?_) | (with_reducible refine (C25.out _ X.out.bel (by first | assumption | omega)).mono ?_) | (with_reducible refine (C26.out _ X.out.bel (by first | assumption | omega)).mono ?_) | (with_reducible refine (C1.out _ X.out.bel _ (X.out.fnd lk)).mono ?_) | (with_reducible refine (C2.out _ X.out.bel _ (X.out.fnd lk)).mono ?_) | (with_reducible refine (C3.out _ X.out.bel _ (X.out.fnd lk)).mono ?_) | (with_reducible refine (C4.out _ X.out.bel _ (X.out.fnd lk)).mono ?_) | (with_reducible refine (C5.out _ X.out.bel _ (X.out.fnd lk)).mono ?_) | (with_reducible refine (C6.out _ X.out.bel _ (X.out.fnd lk)).mono ?_) | (with_reducible refine (C7.out _ X.out.bel _ (X.out.fnd lk)).mono ?_) | (with_reducible refine (C8.out _ X.out.bel _ (X.out.fnd lk)).mono ?_) | (with_reducible refine (C9.out _ X.out.bel _ (X.out.fnd lk)).mono ?_) | (with_reducible refine (C10.out _ X.out.bel _ (X.out.fnd lk)).mono ?_) | (with_reducible refine (C11.out _ X.out.bel _ (X.out.fnd lk)).mono ?_) | (with_reducible refine (C12.out _ X.out.bel _ (X.out.fnd lk)).mono ?_) | (with_reducible refine (C13.out _ X.out.bel _ (X.out.fnd lk)).mono ?_) | (with_reducible refine (C14.out _ X.out.bel _ (X.out.fnd lk)).mono ?_) | (with_reducible refine (C15.out _ X.out.bel _ (X.out.fnd lk)).mono ?_) | (with_reducible refine (C16.out _ X.out.bel _ (X.out.fnd lk)).mono ?_) | (with_reducible refine (C17.out _ X.out.bel _ (X.out.fnd lk)).mono ?_) | (with_reducible refine (C18.out _ X.out.bel _ (X.out.fnd lk)).mono ?_) | (with_reducible refine (C19.out _ X.out.bel _ (X.out.fnd lk)).mono ?_) | (with_reducible refine (C20.out _ X.out.bel _ (X.out.fnd lk)).mono ?_) | (with_reducible refine (C21.out _ X.out.bel _ (X.out.fnd lk)).mono ?_) | (with_reducible refine (C22.out _ X.out.bel _ (X.out.fnd lk)).mono ?_) | (with_reducible refine (C23.out _ X.out.bel _ (X.out.fnd lk)).mono ?_) | (with_reducible refine (C24.out _ X.out.bel _ (X.out.fnd lk)).mono ?_) | (with_reducible refine (C25.out _ X.out.bel _ (X.out.fnd lk)).mono ?_) | (with_reducible refine (C26.out _ X.out.bel _ (X.out.fnd lk)).mono ?_));rintro e u ⟨rfl,hb9⟩;(try go_wp2_with fail);refine kx hK (X.out.next hb9) ?_ ?_;(intro V X;first | exact Or.inr fun _=>X.bare | exact Or.inr fun _=>X.init | exact Or.inr fun _=>X.pre _ rfl | exact Or.inl (by decide +kernel) | exact Or.inr fun _=>X.init2 | exact Or.inr fun _=>X.init3);intro V X0;clear hb9)
          | ((with_reducible refine ka hK X.out ?_ ?_);(intro V X;first | exact Or.inr fun _=>X.bare | exact Or.inr fun _=>X.init | exact Or.inr fun _=>X.pre _ rfl | exact Or.inl (by decide +kernel) | exact Or.inr fun _=>X.init2 | exact Or.inr fun _=>X.init3);intro V X0)
          | ((with_reducible refine kf1 hK X.out lk ?_ ?_);(intro V X;first | exact Or.inl (by decide +kernel) | ((try simp only [List.set_cons_zero,List.set_cons_succ,List.cons_append,List.nil_append,List.length_cons,List.length_nil] at X);exact Or.inr fun _=>X.pre _ rfl));intro V X0;(try simp only [List.set_cons_zero,List.set_cons_succ,List.cons_append,List.nil_append,List.length_cons,List.length_nil] at X0))
          | ((with_reducible refine kf2 hK X.out lk ?_ ?_);(intro V X;first | exact Or.inl (by decide +kernel) | ((try simp only [List.set_cons_zero,List.set_cons_succ,List.cons_append,List.nil_append,List.length_cons,List.length_nil] at X);exact Or.inr fun _=>X.pre _ rfl));intro V X0;(try simp only [List.set_cons_zero,List.set_cons_succ,List.cons_append,List.nil_append,List.length_cons,List.length_nil] at X0))
          | ((with_reducible refine kf4 hK X.out lk ?_ ?_);(intro V X;first | exact Or.inl (by decide +kernel) | ((try simp only [List.set_cons_zero,List.set_cons_succ,List.cons_append,List.nil_append,List.length_cons,List.length_nil] at X);exact Or.inr fun _=>X.pre _ rfl));intro V X0;(try simp only [List.set_cons_zero,List.set_cons_succ,List.cons_append,List.nil_append,List.length_cons,List.length_nil] at X0))
          | ((with_reducible refine kf8 hK X.out lk ?_ ?_);(intro V X;first | exact Or.inl (by decide +kernel) | ((try simp only [List.set_cons_zero,List.set_cons_succ,List.cons_append,List.nil_append,List.length_cons,List.length_nil] at X);exact Or.inr fun _=>X.pre _ rfl));intro V X0;(try simp only [List.set_cons_zero,List.set_cons_succ,List.cons_append,List.nil_append,List.length_cons,List.length_nil] at X0))
          | ((with_reducible refine kf9 hK X.out lk ?_ ?_);(intro V X;first | exact Or.inl (by decide +kernel) | ((try simp only [List.set_cons_zero,List.set_cons_succ,List.cons_append,List.nil_append,List.length_cons,List.length_nil] at X);exact Or.inr fun _=>X.pre _ rfl));intro V X0;(try simp only [List.set_cons_zero,List.set_cons_succ,List.cons_append,List.nil_append,List.length_cons,List.length_nil] at X0))
          | ((with_reducible refine kf12 hK X.out lk ?_ ?_);(intro V X;first | exact Or.inl (by decide +kernel) | ((try simp only [List.set_cons_zero,List.set_cons_succ,List.cons_append,List.nil_append,List.length_cons,List.length_nil] at X);exact Or.inr fun _=>X.pre _ rfl));intro V X0;(try simp only [List.set_cons_zero,List.set_cons_succ,List.cons_append,List.nil_append,List.length_cons,List.length_nil] at X0))
          | ((with_reducible refine kf16 hK X.out lk ?_ ?_);(intro V X;first | exact Or.inl (by decide +kernel) | ((try simp only [List.set_cons_zero,List.set_cons_succ,List.cons_append,List.nil_append,List.length_cons,List.length_nil] at X);exact Or.inr fun _=>X.pre _ rfl));intro V X0;(try simp only [List.set_cons_zero,List.set_cons_succ,List.cons_append,List.nil_append,List.length_cons,List.length_nil] at X0))
          | ((with_reducible refine hK.out _ _ (Or.inr fun h=>h) ?_);have X0:=X.out)
          | ((with_reducible refine kx hK X.out ?_ ?_);(intro V X;first | exact Or.inr fun _=>X.bare | exact Or.inr fun _=>X.init | exact Or.inr fun _=>X.pre _ rfl | exact Or.inl (by decide +kernel) | exact Or.inr fun _=>X.init2 | exact Or.inr fun _=>X.init3);intro V X0))
         all_goals (clear hK K;replace X:=Lib.hid X0;clear X0;(try simp only [Act.put,seti,set0,setS])))
      | refine done rfl (by kernel_rfl) ?_ _)
     all_goals (have F:=X.out.facts;simp only [Facts,cellsAt,List.take_succ_cons,List.take_zero,Nat.reduceAdd,and_true,List.set_cons_succ,List.set_cons_zero,List.cons_append,List.nil_append] at F))
  | ((with_reducible refine (show Met _ _ _ from ?_));go_meet;subst hLL;first | exact ⟨_,rfl,X.out⟩ | exact ⟨_,_,rfl,rfl,X.out⟩ | exact M1.out)
  | ((with_reducible refine (show bodyPost _ _ _ _ _ _ from ?_));first | exact E1.out | exact E2.out | exact E3.out | exact E4.out | (go_ret;exact ⟨rfl,X.out.bel⟩) | (go_ret;refine ⟨?_,X.out.bel⟩;first | (rw [P1.out (by assumption) (by assumption) (by assumption)];rfl;done) | (rw [P1.out (by assumption) (by assumption)];rfl;done) | (rw [P1.out (by assumption)];rfl;done) | (rw [P2.out (by assumption) (by assumption) (by assumption)];rfl;done) | (rw [P2.out (by assumption) (by assumption)];rfl;done) | (rw [P2.out (by assumption)];rfl;done) | (rw [P3.out (by assumption) (by assumption) (by assumption)];rfl;done) | (rw [P3.out (by assumption) (by assumption)];rfl;done) | (rw [P3.out (by assumption)];rfl;done) | (rw [P4.out (by assumption) (by assumption) (by assumption)];rfl;done) | (rw [P4.out (by assumption) (by assumption)];rfl;done) | (rw [P4.out (by assumption)];rfl;done)) | exact bodyPost_ret (by simp [results,RS.out,go_sem,F]) rfl ⟨rfl,X.out.bel⟩))):p:=h
theorem wk0 {p:Prop} (h:p:=by
 go_upto_region 1 with fail
 first | (with_reducible refine gs6 (M:=fun W=>Code.wp _ _ _ _ W) (fun V X0=>?_)) | (with_reducible refine gs5 (M:=fun W=>Code.wp _ _ _ _ W) (fun V X0=>?_)) | (with_reducible refine gs4 (M:=fun W=>Code.wp _ _ _ _ W) (fun V X0=>?_)) | (with_reducible refine gs3 (M:=fun W=>Code.wp _ _ _ _ W) (fun V X0=>?_)) | (with_reducible refine gs2 (M:=fun W=>Code.wp _ _ _ _ W) (fun V X0=>?_)) | (with_reducible refine gs1 (M:=fun W=>Code.wp _ _ _ _ W) (fun V X0=>?_)) | (with_reducible refine gs0 (M:=fun W=>Code.wp _ _ _ _ W) (fun V X0=>?_))
 have X:=Lib.hid X0
 clear X0
 have F:=X.out.facts
 simp only [Facts,cellsAt,List.take_succ_cons,List.take_zero,Nat.reduceAdd,and_true,List.set_cons_succ,List.set_cons_zero,List.cons_append,List.nil_append] at F
 exact wk):p:=h
theorem wkc {p:Prop} (h:p:=by
 (try ((first | obtain ⟨g,g',g'',rfl,rfl,rfl,hX⟩:=hcut | obtain ⟨g,g',rfl,rfl,hX⟩:=hcut | obtain ⟨g,rfl,hX⟩:=hcut);subst hLL;(try simp only [List.cons_append,List.nil_append] at hX);replace X:=Lib.hid hX;clear hX;replace F:=X.out.facts;simp only [Facts,cellsAt,List.take_succ_cons,List.take_zero,Nat.reduceAdd,and_true,List.set_cons_succ,List.set_cons_zero,List.cons_append,List.nil_append] at F))
 exact wk):p:=h
end Go.Proofs.YtdbhahiieokplaaGreatDoor
