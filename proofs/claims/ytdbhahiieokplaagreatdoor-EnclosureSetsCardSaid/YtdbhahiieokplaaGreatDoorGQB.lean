import Derived.Test.YtdbhahiieokplaaGreatDoorGRNC
import Derived.OwnWalk
import Derived.Test.YtdbhahiieokplaaGreatDoorGSgH
import Derived.Deep.RegionHeld3
import Derived.Deep.DrawnRows
import Derived.Deep.QuietTactic
import Derived.BigQuiet
set_option linter.unusedSimpArgs false
set_option linter.unusedVariables false

namespace Go.Proofs.YtdbhahiieokplaaGreatDoor
open Go.RowKit

def Own (w:World) (base:Nat) (v:Value) (n:Nat) (xs:List Value):Prop :=
 xs.length=n∧((v=.slice none 0 0∧n=0) ∨
  ∃ g cap cur T,v=.slice (some ⟨g,0,none⟩) n cap∧base≤g∧w.heap[g]?=some (.cells cur T (0,0))∧n≤cap∧cap≤maxLen∧cap≤cur.size∧cur.toList.take n=xs)

section
variable {w w':World} {base:Nat} {v:Value} {n:Nat} {xs:List Value}

theorem Own.nil (w:World) (base:Nat):Own w base (.slice none 0 0) 0 []:=⟨rfl,.inl ⟨rfl,rfl⟩⟩

theorem Own.kept {row:Option Nat} (h:Own w base v n xs) (hg:w.grownBy w' row) (hne:v.ownBlock=none∨v.ownBlock≠row):Own w' base v n xs:=by
 refine ⟨h.1,?_⟩
 rcases h.2 with hn | ⟨g,cap,cur,T,rfl,hb,hgg,rest⟩
 · exact .inl hn
 · refine .inr ⟨g,cap,cur,T,rfl,hb,?_,rest⟩
   rw [hg.block g (Array.getElem?_eq_some_iff.1 hgg).1 (by simpa [Value.ownBlock] using hne)]
   exact hgg

theorem Own.alloc (h:Own w base v n xs) (o:Obj):Own (w.alloc o) base v n xs:=h.kept (World.grownBy_alloc w o none) (by cases hv:v.ownBlock<;>simp)
theorem Own.drew (h:Own w base v n xs):Own w.drew base v n xs:=h
theorem Own.drewN (h:Own w base v n xs) (k:Nat):Own (w.drewN k) base v n xs:=h

theorem Own.below {B:Nat} (h:Own w base v n xs) (hb:Below B w w') (hv:∀ g,v.ownBlock=some g→g<B):Own w' base v n xs:=by
 refine ⟨h.1,?_⟩
 rcases h.2 with hn | ⟨g,cap,cur,T,rfl,hbg,hgg,rest⟩
 · exact .inl hn
 · exact .inr ⟨g,cap,cur,T,rfl,hbg,(hb.block g (hv g (by simp [Value.ownBlock]))).trans hgg,rest⟩

theorem Own.lt (h:Own w base v n xs):∀ k,v.ownBlock=some k→base≤k∧k<w.heap.size:=by
 intro k hk
 rcases h.2 with ⟨rfl,_⟩ | ⟨g,cap,cur,T,rfl,hb,hg,_⟩
 · simp [Value.ownBlock] at hk
 · simp [Value.ownBlock] at hk
   subst hk
   exact ⟨hb,(Array.getElem?_eq_some_iff.1 hg).1⟩

theorem Own.cells (h:Own w base v n xs) {g:Nat} (hg:v.ownBlock=some g):∀ j u,xs[j]?=some u→w.cell? ((⟨g,0,none⟩:Addr).add j)=some u:=by
 intro j u hu
 rcases h.2 with ⟨rfl,_⟩ | ⟨g',cap,cur,T,rfl,_,hgg,_,_,_,htake⟩
 · simp [Value.ownBlock] at hg
 · simp [Value.ownBlock] at hg
   subst hg
   rw [Addr.add_lit,Nat.zero_add,cell_of_row w g' j cur T (0,0) hgg]
   rw [←htake,List.getElem?_take] at hu
   split at hu
   · simpa using hu
   · cases hu

theorem Own.rd {K:IntKind} {f:Nat→Nat} (h:Own w base v n (nums K f n)):∃ A c,v=.slice A n c∧n≤c∧Rd w K A n f:=by
 rcases h.2 with ⟨rfl,rfl⟩ | ⟨g,cap,cur,T,rfl,hb,hg,hc,_,_,ht⟩
 · exact ⟨none,0,rfl,Nat.le_refl _,Rd.nil _ _ _ _⟩
 · refine ⟨_,cap,rfl,hc,fun _=>⟨g,0,rfl,(Array.getElem?_eq_some_iff.1 hg).1,fun i hi=>?_⟩⟩
   have:=h.cells (g:=g) (by simp [Value.ownBlock]) i _ (nums_get K f n i hi)
   rwa [Addr.add_lit] at this

theorem Own.start {g cap:Nat} {cur:Array Value} {T:TypeId} (hg:w.heap[g]?=some (.cells cur T (0,0))) (hb:base≤g) (hc:cap≤cur.size) (hm:cap≤maxLen):Own w base (.slice (some ⟨g,0,none⟩) 0 cap) 0 [] :=
 ⟨rfl,.inr ⟨g,cap,cur,T,rfl,hb,hg,Nat.zero_le _,hm,hc,by simp⟩⟩

theorem Own.take {A:Option Addr} {c m:Nat} {K:IntKind} {f:Nat→Nat} (h:Own w base (.slice A n c) n (nums K f n)) (hm:m≤n):Own w base (.slice A m c) m (nums K f m):=by
 refine ⟨nums_length K f m,?_⟩
 rcases h.2 with ⟨h2,h3⟩ | ⟨g,cap,cur,T,hv,hg,hh,h4,h5,h6,h7⟩
 · obtain rfl:m=0:=by omega
   injection h2 with a1 a2 a3
   exact Or.inl ⟨by rw [a1,a3],rfl⟩
 · injection hv with a1 a2 a3
   subst a1 a3
   refine Or.inr ⟨g,c,cur,T,rfl,hg,hh,by omega,h5,h6,?_⟩
   have e:=congrArg (List.take m) h7
   rw [List.take_take,Nat.min_eq_left hm] at e
   rw [e]
   apply List.ext_getElem?
   intro i
   by_cases hi:i<m
   · rw [List.getElem?_take_of_lt hi,nums_get _ _ _ _ (by omega),nums_get _ _ _ _ hi]
   · rw [List.getElem?_eq_none (by rw [List.length_take,nums_length];omega),List.getElem?_eq_none (by rw [nums_length];omega)]

theorem Own.of_cells {g c:Nat} {cur:Array Value} {T:TypeId} {K:IntKind} {f:Nat→Nat} (hg:w.heap[g]?=some (.cells cur T (0,0))) (hb:base≤g) (hn:n≤c) (hm:c≤maxLen) (hc:c≤cur.size) (h:∀ i,i<n→cur[i]?=some (.int K (f i:Int))) :
  Own w base (.slice (some ⟨g,0,none⟩) n c) n (nums K f n):=by
 refine ⟨nums_length K f n,Or.inr ⟨g,c,cur,T,rfl,hb,hg,hn,hm,hc,?_⟩⟩
 apply List.ext_getElem?
 intro i
 by_cases hi:i<n
 · rw [List.getElem?_take_of_lt hi,nums_get _ _ _ _ hi,Array.getElem?_toList,h i hi]
 · rw [List.getElem?_eq_none (by rw [List.length_take,Array.length_toList];omega),List.getElem?_eq_none (by rw [nums_length];omega)]

theorem Own.mono {base':Nat} (h:Own w base v n xs) (hb:base'≤base):Own w base' v n xs:=by
 refine ⟨h.1,?_⟩
 rcases h.2 with h2 | ⟨g,cap,cur,T,hv,hg,r⟩
 · exact Or.inl h2
 · exact Or.inr ⟨g,cap,cur,T,hv,by omega,r⟩
end

section
variable {P:Program} (w:World)

theorem run_append_space (t ty e:TypeId) (i:TypeInfo) (ht:P.underlying t=some (.slice e)) (hi:P.info? e=some i) (hs1:i.size=1)
  (g sLen sCap:Nat) (cur:Array Value) (T:TypeId) (hg:w.heap[g]?=some (.cells cur T (0,0)))
  (a:Addr) (m c:Nat) (news:List Value) (hl:news.length=m) (hnews:∀ j u,news[j]?=some u→w.cell? (a.add j)=some u) (h1:∀ u∈news,u.oneCell'=true)
  (hroom:sLen+m≤sCap) (hfit:sLen+news.length≤cur.size) :
  (Builtin.append_ #[t,t] ty #[.slice (some ⟨g,0,none⟩) sLen sCap,.slice (some a) m c]).run P w =
   .ok (.slice (some ⟨g,0,none⟩) (sLen+m) sCap) (w.setRow g (cur.toList.take sLen++news++cur.toList.drop (sLen+news.length)).toArray):=by
 have hf:=run_firstCells_some (P:=P) w i.size m a m c news (by rw [hl,hs1,Nat.mul_one]) hnews
 rw [hs1] at hf
 have hst:=run_storeCells_at P g sLen T news 0 cur w hg (by simpa using hfit) h1
 simp only [Nat.add_zero] at hst
 simp [Builtin.append_,run_underlying ht,sizeOf,typeInfo,hi,Builtin.lenOf,hroom,hf,Addr.add_lit,hst,hs1]

theorem run_append_Own (base:Nat) (t ty e:TypeId) (i:TypeInfo) (z:Value) (bytes:Nat) (ht:P.underlying t=some (.slice e)) (hi:P.info? e=some i) (hz:i.zero=some z)
  (hsize:i.size=1) (hby:i.bytes=bytes) (hzs:z.cells.size=1)
  (v:Value) (n:Nat) (xs:List Value) (hown:Own w base v n xs)
  (a:Addr) (m c:Nat) (news:List Value) (hl:news.length=m) (hm0:0<m) (hnews:∀ j u,news[j]?=some u→w.cell? (a.add j)=some u) (h1:∀ u∈news,u.oneCell'=true)
  (h63:n+m≤maxLen) (hbytes:(n+m)*bytes≤140737488355328) (hbase:base≤w.heap.size) :
  ∃ v' w',(Builtin.append_ #[t,t] ty #[v,.slice (some a) m c]).run P w=.ok v' w'∧Own w' base v' (n+m) (xs++news)∧w.grownBy w' v.ownBlock∧(v'.ownBlock=v.ownBlock∨v'.ownBlock=some w.heap.size):=by
 subst hby
 have hsmall:n+m≤9223372036854775807:=by simp only [maxLen] at h63;omega
 have hlen:(xs++news).length=n+m:=by rw [List.length_append,hown.1,hl]
 have grown:∀ (old:Nat),old<n+m→∀ (row:Option Nat),
   Own (w.drew.alloc (.cells (xs.toArray++news.toArray++Builtin.zeroCells z.cells (grownCap w (n+m) old e-(n+m))) e)) base
    (.slice (some ⟨w.heap.size,0,none⟩) (n+m) (grownCap w (n+m) old e)) (n+m) (xs++news) ∧
   w.grownBy (w.drew.alloc (.cells (xs.toArray++news.toArray++Builtin.zeroCells z.cells (grownCap w (n+m) old e-(n+m))) e)) row:=by
  intro old ho row
  have hge:=grownCap_ge w (n+m) old e
  have hcm:grownCap w (n+m) old e≤maxLen:=grownCap_le_maxLen w (n+m) old e h63
  refine ⟨⟨hlen,.inr ⟨w.heap.size,_,_,e,rfl,hbase,heap_alloc_new w.drew _,hge,hcm,?_,?_⟩⟩,⟨rfl,rfl,rfl,by simp,fun k hk _=>Below.heap_alloc w.drew _ k hk⟩⟩
  · simp only [Array.size_append,List.size_toArray,size_zeroCells,hzs,hown.1,hl]
    omega
  · simp only [Array.toList_append,List.append_assoc]
    rw [←List.append_assoc,←hlen]
    exact List.take_left
 rcases hown.2 with ⟨rfl,rfl⟩ | ⟨g,cap,cur,T,rfl,hbg,hg,hnc,hcm,hcs,htake⟩
 · have hx:xs=[]:=List.eq_nil_of_length_eq_zero hown.1
   subst hx
   have hr:=run_append_nil (P:=P) w t ty e i z ht hi hz a m c news (by rw [hl,hsize,Nat.mul_one]) hnews (by omega) (by omega) (by have hb:=hbytes;simp only [Nat.zero_add] at hb;omega)
   have hgr:=grown 0 (by omega) (Value.ownBlock (.slice none 0 0))
   simp only [Nat.zero_add,List.nil_append,Array.empty_append] at hgr ⊢
   exact ⟨_,_,hr,hgr.1,hgr.2,.inr (by simp [Value.ownBlock])⟩
 · by_cases hroom:n+m≤cap
   · have hfit:n+news.length≤cur.size:=by omega
     have hr:=run_append_space (P:=P) w t ty e i ht hi hsize g n cap cur T hg a m c news hl hnews h1 hroom hfit
     refine ⟨_,_,hr,⟨hlen,.inr ⟨g,cap,_,T,rfl,hbg,setRow_heap w g cur _ T _ hg,hroom,hcm,?_,?_⟩⟩,⟨rfl,rfl,rfl,by simp,fun k _ hk=>setRow_other w g k _ (fun e=>hk (by simp [Value.ownBlock,e]))⟩,.inl (by simp [Value.ownBlock])⟩
     · simp only [List.size_toArray,List.length_append,List.length_take,List.length_drop,Array.length_toList]
       omega
     · rw [htake,←hlen]
       exact List.take_left
   · have holds:∀ j u,xs[j]?=some u→w.cell? ((⟨g,0,none⟩:Addr).add j)=some u:=hown.cells (g:=g) (by simp [Value.ownBlock])
     have hr:=run_append_grow (P:=P) w t ty e i z ht hi hz ⟨g,0,none⟩ n cap xs (by rw [hown.1,hsize,Nat.mul_one]) holds a m c news (by rw [hl,hsize,Nat.mul_one]) hnews (by omega) (by omega) (growslice_fits (by omega) hbytes)
     have hgr:=grown cap (by omega) (Value.ownBlock (.slice (some ⟨g,0,none⟩) n cap))
     exact ⟨_,_,hr,hgr.1,hgr.2,.inr (by simp [Value.ownBlock])⟩

theorem wpList_append_Own {ops:Array Oper} {rest:List Oper} {o:Oper} {a:Act} {Q:Exit→Act→World→Prop} (hgd:o.guard=none) (s x:Operand) (t:TypeId)
  (ho:o.op=.call { callee:=.builtin .append,args:=#[s,x],argTypes:=#[t,t] })
  (base:Nat) (e:TypeId) (i:TypeInfo) (z:Value) (bytes:Nat) (ht:P.underlying t=some (.slice e)) (hi:P.info? e=some i) (hz:i.zero=some z)
  (hsize:i.size=1) (hby:i.bytes=bytes) (hzs:z.cells.size=1)
  (v:Value) (n:Nat) (xs:List Value) (hs:a.eval s=v) (hown:Own w base v n xs)
  (ad:Addr) (m c:Nat) (news:List Value) (hx:a.eval x=.slice (some ad) m c) (hl:news.length=m) (hm0:0<m) (hnews:∀ j u,news[j]?=some u→w.cell? (ad.add j)=some u) (h1:∀ u∈news,u.oneCell'=true)
  (h63:n+m≤maxLen) (hbytes:(n+m)*bytes≤140737488355328) (hbase:base≤w.heap.size)
  (h:∀ v' w',Own w' base v' (n+m) (xs++news)→w.grownBy w' v.ownBlock→(v'.ownBlock=v.ownBlock∨v'.ownBlock=some w.heap.size)→wpList P ops Q rest (a.put o.dst v') w'):wpList P ops Q (o :: rest) a w:=by
 refine wpList_plain hgd fun K hK=>?_
 obtain ⟨v',w',hr,h2,h3,h4⟩:=run_append_Own (P:=P) w base t o.type e i z bytes ht hi hz hsize hby hzs v n xs hown ad m c news hl hm0 hnews h1 h63 hbytes hbase
 unfold Oper.wp execOp
 simp only [ho,resolve,invoke,builtin,Sem.run_bind,Sem.run_pure,Result.andThen_ok,List.map_toArray,List.map_cons,List.map_nil,hs,hx,hr]
 exact hK _ _ (h v' w' h2 h3 h4)
end
end Go.Proofs.YtdbhahiieokplaaGreatDoor


namespace Go.Proofs.YtdbhahiieokplaaGreatDoor
open Go.RowKit
attribute [local go_sem ↓] Go.wp_at_zero Go.wp_at_succ

structure Tr (w:World) (A:Option Addr) (n c V:Nat):Prop where
 dg:Dg w .i64 256 A n V
 ln:n=nd V
 cap:n≤c
 nil:A=none→c=0

section
variable {w w':World} {A:Option Addr} {n c V:Nat}
theorem Tr.below (h:Tr w A n c V) (hb:Below w.heap.size w w'):Tr w' A n c V:=⟨h.dg.below hb,h.ln,h.cap,h.nil⟩
theorem Tr.alloc (h:Tr w A n c V) (o:Obj):Tr (w.alloc o) A n c V:=⟨h.dg.alloc o,h.ln,h.cap,h.nil⟩
theorem Tr.drewN (h:Tr w A n c V) (k:Nat):Tr (w.drewN k) A n c V:=⟨h.dg.drewN k,h.ln,h.cap,h.nil⟩
theorem Tr.drew (h:Tr w A n c V):Tr w.drew A n c V:=⟨h.dg.drew,h.ln,h.cap,h.nil⟩
end

def RetTr (w:World) (V:Nat) (e:Ending) (w':World):Prop:=∃ A n c,e=.returned (.slice A n c)∧Tr w' A n c V∧Below w.heap.size w w'∧∀ a,A=some a→w.heap.size≤a.block

set_option maxHeartbeats 1000000 in
set_option maxRecDepth 100000 in
theorem rtrim_any (A:Option Addr) (n c V:Nat) (w:World) (hn:n≤1000000000) (hc:n≤c) (h:Dg w .i64 256 A n V) :
  Calls Tryz.prog 113 #[.slice A n c] w (RetV w (.slice A (nd V) c)):=by
 have hle:=nd_le h.lt
 have hz:∀ i,nd V≤i→D 256 V i=0:=fun i hi=>D_zero_of (b:=256) (by omega) (nd_lt V) hi
 have ht:=nd_top (V:=V)
 generalize nd V=k0 at *
 have HZ:=Lib.hid hz
 have HT:=Lib.hid ht
 have HR:=Lib.hid h
 clear hz ht h
 go_enter Tryz.func113,Tryz.ntmps113
 go_wp2
 go_loop [3] (fun i=>∃ k:Nat,k≤n∧k0≤k∧i=.int .i64 k) (fun i=>(intOf i).toNat)
 case atStart=>exact ⟨n,Nat.le_refl _,hle,rfl⟩
 case round =>
  obtain ⟨k,hk,hkk,rfl⟩:=hrel
  by_cases h0:k0<k
  · obtain ⟨g,o,rfl,hg,hcell⟩:=HR.out.rd (by omega)
    have hc1:w.cell? ⟨g,o+(k-1),none⟩=some (.int .i64 0):=by rw [hcell (k-1) (by omega),HZ.out (k-1) (by omega)];rfl
    clear hcell
    go_wp2
    go_round
    case rel=>exact ⟨k-1,by omega,by omega,by go_num⟩
    case measure=>simp [intOf];omega
  · obtain rfl:k=k0:=by omega
    have hkc:k≤c:=by omega
    by_cases h1:0<k
    · obtain ⟨g,o,rfl,hg,hcell⟩:=HR.out.rd (by omega)
      have hc1:w.cell? ⟨g,o+(k-1),none⟩=some (.int .i64 (D 256 V (k-1):Int)):=hcell (k-1) (by omega)
      have hne:((D 256 V (k-1):Int)==0)=false:=by have:=HT.out h1;simp;omega
      clear hcell
      go_wp2
      go_ret
      exact ⟨rfl,rfl⟩
    · obtain rfl:k=0:=by omega
      go_wp2
      go_ret
      exact ⟨rfl,rfl⟩

theorem own_form {w:World} {base:Nat} {E:TypeId} {v:Value} {n:Nat} {f:Nat→Nat} (h:w.ownsRow base E 1 v n (nums .i64 f n)) :
  ∃ A c,v=.slice A n c∧n≤c∧(A=none→c=0)∧Rd w .i64 A n f∧∀ a,A=some a→base≤a.block:=by
 rcases h.2 with ⟨rfl,rfl⟩ | ⟨g,cap,cur,rfl,hb,hg,h3,_,_,ht⟩
 · exact ⟨none,0,rfl,Nat.le_refl _,fun _=>rfl,Rd.nil _ _ _ _,fun a e=>by cases e⟩
 · refine ⟨_,cap,rfl,h3,fun e=>(by cases e),?_,fun a e=>by injection e with e;subst e;exact hb⟩
   refine (fun _=>⟨g,0,rfl,(Array.getElem?_eq_some_iff.1 hg).1,fun i hi=>?_⟩)
   rw [Nat.zero_add,cell_of_row w g i cur E (0,0) hg]
   have:=nums_get .i64 f n i hi
   rw [←ht,List.getElem?_take] at this
   split at this
   · simpa using this
   · cases this

theorem Tr.of {w:World} {A:Option Addr} {n c V:Nat} (hc:n≤c) (hn:A=none→c=0) (h:Dg w .i64 256 A n V):Tr w A (nd V) c V :=
 ⟨⟨nd_lt V,h.rd.take (nd_le h.lt)⟩,rfl,Nat.le_trans (nd_le h.lt) hc,hn⟩

set_option maxHeartbeats 400000 in
set_option maxRecDepth 100000 in
theorem rdigits (neg:Bool) (s:ByteArray) (w:World) (hs:s.size≤1000000000) :
  Calls Tryz.prog 68 #[.agg #[.bool neg,.string s]] w (RetTr w (bval s)):=by
 obtain ⟨i0,hi,hz0,hz1,hz2⟩:=info_parts intTy_info
 go_enter Tryz.func68,Tryz.ntmps68
 go_wp2
 go_loopw [3,4] (fun v i wr=>∃ k:Nat,k≤s.size∧i=.int .i64 ((s.size:Int)-1-k)∧wr.ownsRow (w.heap.size+1) 3 1 v k (nums .i64 (dig s) k) ∧
   wr.cell? ⟨w.heap.size,1,none⟩=some (.string s)∧Below w.heap.size w wr∧w.heap.size+1≤wr.heap.size)
  (fun _ i _=>(intOf i+1).toNat)
 case atStart=>exact ⟨0,Nat.zero_le _,by simp,World.ownsRow_nil _ _ _ _,by simp,(Below.refl _ _).alloc (Nat.le_refl _) _,by simp⟩
 case round =>
  obtain ⟨k,hk,rfl,hown,hcell,hnx,hsz⟩:=hrel
  by_cases hlt:k<s.size
  · have hx:(s[s.size-1-k]'(by omega)).toNat=dig s k:=by unfold dig;rw [dif_pos hlt]
    have hd:=dig_lt s k
    go_wp2_with (at_builtin;refine wpList_append_own _ rfl _ _ 98 rfl (w.heap.size+1) 3 i0 (.int .i64 0) 1 8 Tryz.underlying98 hi hz0 hz1 hz2 rfl (by decide) _ _ _ rfl (hown.alloc _) ⟨wr.heap.size,0,none⟩ 1 1 [.int .i64 (dig s k:Int)] rfl rfl ?c1 ?c2 ?c3 ?c4 ?c5 ?_)
    case c1 =>
     intro j u hj
     match j,hj with
     | 0,hj=>simp at hj;subst hj;simp [Addr.add]
    case c2=>intro u hu;simp at hu;subst hu;rfl
    case c3=>unfold maxLen;omega
    case c4=>omega
    case c5=>simp;omega
    intro v' w1 hown' hgrow _
    have hown2:w1.ownsRow (w.heap.size+1) 3 1 v' (k+1) (nums .i64 (dig s) (k+1)):=by rw [nums_succ];exact hown'
    have hb1:Below (w.heap.size+1) wr w1:=((Below.refl _ _).alloc hsz _).grown hgrow (by simp;omega) (fun g hg=>((hown.lt) g hg).1)
    have hcell1:w1.cell? ⟨w.heap.size,1,none⟩=some (.string s):=(hb1.cell (p:=⟨w.heap.size,1,none⟩) (by simp)).trans hcell
    have hsz1:=hb1.size
    clear hgrow hown' hown hcell
    go_wp2
    go_roundw
    case rel=>exact ⟨k+1,by omega,by go_num,hown2,hcell1,hnx.trans (hb1.mono (by omega)),by omega⟩
    case measure=>simp [intOf];omega
  · obtain rfl:k=s.size:=by omega
    obtain ⟨A,c,rfl,hc,hn,hr,hnew⟩:=own_form hown
    have HW:=Lib.hid hnew
    clear hnew
    have hd:Dg wr .i64 256 A s.size (bval s):=⟨bval_lt s,hr.congr fun i _=>dig_eq s i⟩
    have HD:=Lib.hid hd
    have HN:=Lib.hid hn
    clear hr hd hown hn
    go_wp2_with fail
    refine (rtrim_any A s.size c (bval s) _ hs hc HD.out).mono ?_
    rintro e w' ⟨rfl,rfl⟩
    go_wp2
    go_ret
    exact ⟨A,_,c,rfl,Tr.of hc HN.out HD.out,hnx,fun a ha=>by have:=HW.out a ha;omega⟩

theorem div_256 (V k:Nat):V / 256^k=V / 256^(k+1)*256+D 256 V k:=by rw [div_D 256 V k,Nat.mul_comm]

set_option maxHeartbeats 1000000 in
set_option maxRecDepth 100000 in
theorem rsmall_yes (A:Option Addr) (n c V:Nat) (w:World) (hn:n≤7) (h:Dg w .i64 256 A n V) :
  Calls Tryz.prog 143 #[.slice A n c] w (RetV w (.tuple #[.int .i64 (V:Int),.bool true])):=by
 have HR:=Lib.hid h
 have hV:V<72057594037927936:=Nat.lt_of_lt_of_le h.lt (pow256_7 hn)
 clear h
 have hn7:decide ((7:Int)<(n:Int))=false:=by simp;omega
 go_enter Tryz.func143,Tryz.ntmps143
 go_wp2
 go_loop [4,5] (fun v i=>∃ k:Nat,k≤n∧i=.int .i64 ((k:Int)-1)∧v=.int .i64 ((V / 256^k:Nat):Int)) (fun _ i=>(intOf i+1).toNat)
 case atStart=>exact ⟨n,Nat.le_refl _,rfl,by rw [Nat.div_eq_of_lt HR.out.lt];rfl⟩
 case round =>
  obtain ⟨k,hk,rfl,rfl⟩:=hrel
  rcases k with _ | j
  · have e:(((0:Nat):Int)-1)=-1:=rfl
    rw [e]
    rw [Nat.pow_zero,Nat.div_one]
    go_wp2
    go_ret2
    exact ⟨rfl,rfl⟩
  · have e:(((j+1:Nat):Int)-1)=(j:Int):=by omega
    rw [e]
    clear e
    obtain ⟨g,o,rfl,hg,hcell⟩:=HR.out.rd (by omega)
    have hc1:w.cell? ⟨g,o+j,none⟩=some (.int .i64 (D 256 V j:Int)):=hcell j (by omega)
    have hst:=div_256 V j
    have hle:V / 256^j≤V:=Nat.div_le_self _ _
    have hdl:=D_lt (b:=256) (by omega) V j
    generalize V / 256^(j+1)=q at *
    generalize D 256 V j=d at *
    have HS:=Lib.hid hst
    have hq:q*256+d<72057594037927936:=by omega
    clear hcell hst
    go_wp2
    go_round
    case rel=>exact ⟨j,by omega,rfl,by rw [HS.out];go_num⟩
    case measure=>simp [intOf]<;>omega

set_option maxHeartbeats 1000000 in
set_option maxRecDepth 100000 in
theorem rsmall_no (A:Option Addr) (n c:Nat) (w:World) (hn:7<n) :
  Calls Tryz.prog 143 #[.slice A n c] w (RetV w (.tuple #[.int .i64 0,.bool false])):=by
 have hn7:decide ((7:Int)<(n:Int))=true:=by simp;omega
 go_enter Tryz.func143,Tryz.ntmps143
 go_wp2
 go_ret2
 exact ⟨rfl,rfl⟩

set_option maxHeartbeats 1000000 in
set_option maxRecDepth 100000 in
theorem rlarge (V:Nat) (hV:V<72057594037927936) (w:World) :
  Calls Tryz.prog 144 #[.int .i64 (V:Int)] w (RetTr w V):=by
 obtain ⟨i0,hi,hz0,hz1,hz2⟩:=info_parts intTy_info
 go_enter Tryz.func144,Tryz.ntmps144
 go_wp2
 go_loopw [0,3] (fun nv v wr=>∃ k:Nat,k≤7∧nv=.int .i64 ((V / 256^k:Nat):Int)∧Hid (0<k→V / 256^(k-1)≠0)∧wr.ownsRow w.heap.size 3 1 v k (nums .i64 (D 256 V) k)∧Below w.heap.size w wr)
  (fun nv _ _=>(intOf nv).toNat)
 case atStart=>exact ⟨0,by omega,by rw [Nat.pow_zero,Nat.div_one],fun h=>by omega,World.ownsRow_nil _ _ _ _,Below.refl _ _⟩
 case round =>
  obtain ⟨k,hk,rfl,HP,hown,hnx⟩:=hrel
  have hst:=div_256 V k
  have hle:V / 256^k≤V:=Nat.div_le_self _ _
  have hdl:=D_lt (b:=256) (by omega) V k
  have hdd:D 256 V k=V / 256^k%256:=rfl
  generalize hq:V / 256^k=q at *
  have HQ:=Lib.hid hq
  clear hq
  by_cases hlt:0<q
  · have hk7 : k < 7 := by
     rcases Nat.lt_or_ge k 7 with h | h
     · exact h
     · obtain rfl:k=7:=by omega
       have:=HQ.out
       have h7:V / 256^7=0:=Nat.div_eq_of_lt (by omega)
       omega
    have hq2:q / 256=V / 256^(k+1):=by rw [←HQ.out,Nat.div_div_eq_div_mul,Nat.pow_succ]
    have HQ2:=Lib.hid hq2
    have HDD:=Lib.hid hdd
    clear hst hdd hq2
    go_wp2_with (at_builtin;refine wpList_append_own _ rfl _ _ 98 rfl w.heap.size 3 i0 (.int .i64 0) 1 8 Tryz.underlying98 hi hz0 hz1 hz2 rfl (by decide) _ _ _ rfl (hown.alloc _) ⟨wr.heap.size,0,none⟩ 1 1 [.int .i64 ((q%256:Nat):Int)] rfl rfl ?_ ?_ ?_ ?_ ?_ ?_)
    · intro j u hj;exact one_cell j u hj (by go_num)
    · intro u hu;simp at hu;subst hu;rfl
    · unfold maxLen;omega
    · omega
    · have:=hnx.size;simp;omega
    intro v' w1 hown' hgrow _
    have hown2:=own_next hown' HDD.out.symm
    have hb1:Below w.heap.size wr w1:=((Below.refl _ _).alloc hnx.size _).grown hgrow (by simp;exact Nat.le_succ_of_le hnx.size) (fun g hg=>((hown.lt) g hg).1)
    clear hgrow hown' hown
    go_wp2
    go_roundw
    case rel=>exact ⟨k+1,by omega,by rw [←HQ2.out];go_num,fun _=>by rw [Nat.add_sub_cancel,HQ.out];omega,hown2,hnx.trans hb1⟩
    case measure=>simp [intOf];omega
  · obtain rfl:q=0:=by omega
    obtain ⟨A,c,rfl,hc,hn,hr,hnew⟩:=own_form hown
    have HW:=Lib.hid hnew
    clear hnew
    have hlt:V<256^k:=by
     have:=HQ.out
     exact Nat.lt_of_div_eq_zero (Nat.pow_pos (by omega)) this
    have hnd:k=nd V:=nd_of hlt fun h=>by
     have h1:=HP.out h
     have h2:=div_256 V (k-1)
     rw [Nat.sub_add_cancel h,HQ.out] at h2
     omega
    have HT:=Lib.hid (show Tr wr A k c V from ⟨⟨hlt,hr⟩,hnd,hc,hn⟩)
    clear hr hown hn hnd hst hdd
    go_wp2
    go_ret
    exact ⟨A,k,c,rfl,HT.out,hnx,HW.out⟩

end Go.Proofs.YtdbhahiieokplaaGreatDoor


namespace Go.Proofs.YtdbhahiieokplaaGreatDoor
open Go.RowKit
attribute [local go_sem ↓] Go.wp_at_zero Go.wp_at_succ

set_option maxHeartbeats 1000000 in
set_option maxRecDepth 100000 in
theorem rwhole (neg:Bool) (A:Option Addr) (n c V:Nat) (w:World) (hn:n≤1000000000) (hcc:n≤c) (hr:Dg w .i64 256 A n V) :
  Calls Tryz.prog 125 #[.slice A n c,.bool neg] w (RetZ w (sgn neg V)):=by
 have hnv:=number_value (neg:=neg) (f:=D 256 V) (k:=nd V) (n:=nd V) (fun i _=>D_lt (by omega) V i) (Nat.le_refl _) (fun i h1 h2=>by omega) (fun h=>nd_top h)
 rw [val_D,Nat.mod_eq_of_lt (nd_lt V)] at hnv
 have hle:=nd_le hr.lt
 have HRT:=Lib.hid (fun W (h:Dg W .i64 256 A n V)=>rtrim_any A n c V W hn hcc h)
 have HF:=Lib.hid (fun i=>D_lt (b:=256) (by omega) V i)
 have HV:=Lib.hid hnv
 have HR:=Lib.hid (hr.rd.take hle)
 have HD:=Lib.hid hr
 clear hnv hr
 generalize nd V=k at *
 generalize hf:D 256 V=f at *
 clear hf
 have hmk:=fun W=>run_make_row' (P:=Tryz.prog) 159 5 (.int .u8 0) 1 Tryz.underlying159 byteTy_info rfl .i64 .i64 k (by omega) (by omega) W
 go_enter Tryz.func125,Tryz.ntmps125
 go_wp2_with fail
 refine (HRT.out _ (HD.out.alloc _)).mono ?_
 rintro e w' ⟨rfl,rfl⟩
 by_cases h1:0<k
 · obtain ⟨g,o,rfl,hg,hcell⟩:=HR.out h1
   have HC:=Lib.hid hcell
   clear hcell
   go_wp2
   go_loopw [6] (fun i wr=>∃ j:Nat,j≤k∧i=.int .i64 j∧wr.rowIs (w.heap.size+1) 5 k (fun m=>.int .u8 ((if k-1-m<j then f (k-1-m) else 0:Nat):Int)) ∧
    Below (w.heap.size+1) (w.alloc (.cells #[.bool false,.string ⟨#[]⟩] 23)) wr) (fun i _=>k-(intOf i).toNat)
   case atStart=>exact ⟨0,Nat.zero_le _,rfl,by simpa using World.rowIs_made (w.alloc (.cells #[.bool false,.string ⟨#[]⟩] 23)) (.int .u8 0) k 5,(Below.refl _ _).alloc (by simp) _⟩
   case round =>
    obtain ⟨j,hj,rfl,hrow,hbl⟩:=hrel
    by_cases hjk:j<k
    · have hcj : wr.cell? ⟨g, o + j, none⟩ = some (.int .i64 (f j : Int)) := by
       rw [hbl.cell (p:=⟨g,o+j,none⟩) (by show g<_;omega),World.cell?_alloc_past _ _ _ hg];exact HC.out j (by omega)
      have hcs:=hrow.cell (i:=k-1-j) (by omega)
      have hfs:=hrow.frozen (k-1-j)
      have hfj:=HF.out j
      go_wp2
      go_roundw
      case rel =>
       refine ⟨j+1,by omega,by go_num,(hrow.set (k-1-j) _).congr fun m hm=>?_,hbl.setCell (by simp) _⟩
       by_cases e:m=k-1-j
       · rw [if_pos e,if_pos (by omega),show k-1-m=j by omega]
       · rw [if_neg e]
         by_cases e2:k-1-m<j
         · rw [if_pos e2,if_pos (by omega)]
         · rw [if_neg e2,if_neg (by omega)]
      case measure=>simp [intOf];omega
    · obtain rfl:j=k:=by omega
      have hstr:=str_of_cells wr 159 9 5 Tryz.underlying159 Tryz.underlying5 Tryz.underlying9 (w.heap.size+1) 0 j j (fun i=>f (j-1-i)) (fun i hi=>HF.out _) (fun i hi=>by
       rw [Nat.zero_add,hrow.cell hi,if_pos (by omega)])
      have hc0:wr.cell? ⟨w.heap.size,0,none⟩=some (.bool false):=(hbl.cell (p:=⟨w.heap.size,0,none⟩) (by simp)).trans (by simp)
      have hc1:wr.cell? ⟨w.heap.size,1,none⟩=some (.string ⟨#[]⟩):=(hbl.cell (p:=⟨w.heap.size,1,none⟩) (by simp)).trans (by simp)
      have hf0:wr.frozen? ⟨w.heap.size,0,none⟩=false:=(hbl.frozen (p:=⟨w.heap.size,0,none⟩) (by simp)).trans (by simp)
      have hf1:wr.frozen? ⟨w.heap.size,1,none⟩=false:=(hbl.frozen (p:=⟨w.heap.size,1,none⟩) (by simp)).trans (by simp)
      have hbelow:Below w.heap.size w ((wr.setCell ⟨w.heap.size,0,none⟩ (.bool neg)).setCell ⟨w.heap.size,1,none⟩ (.string (bytesOf (fun i=>f (j-1-i)) j))):=((((Below.refl _ _).alloc (Nat.le_refl _) _).trans (hbl.mono (by omega))).setCell (by simp) _).setCell (by simp) _
      cases neg
      all_goals
       go_wp2
       refine bodyPost_ret (v:=.agg #[_,.string (bytesOf (fun i=>f (j-1-i)) j)]) (by simp [results,Tryz.results125,go_sem,hc0,hc1];rfl) rfl ⟨?_,hbelow⟩
       have hv:=HV.out
       simp [h1] at hv
       rw [hv]
 · go_wp2
   go_loopw [6] (fun i wr=>i=.int .i64 0∧wr=(w.alloc (.cells #[.bool false,.string ⟨#[]⟩] 23)).alloc (.cells (madeCells #[.int .u8 0] k) 5)) (fun _ _=>0)
   case atStart=>exact ⟨rfl,rfl⟩
   case round =>
    obtain ⟨rfl,rfl⟩:=hrel
    have hstr:=fun W=>str_of_cells W 159 9 5 Tryz.underlying159 Tryz.underlying5 Tryz.underlying9 (w.heap.size+1) 0 k k (fun i=>f (k-1-i)) (fun i hi=>by omega) (fun i hi=>by omega)
    cases neg
    all_goals
     go_wp2
     refine bodyPost_ret (v:=.agg #[_,.string (bytesOf (fun i=>f (k-1-i)) k)]) (by simp [results,Tryz.results125,go_sem];rfl) rfl ⟨?_,?_⟩
     · have hv:=HV.out
       simp [h1] at hv
       rw [hv]
     · exact ((Below.refl _ _).alloc (Nat.le_refl _) _).alloc (by simp) _

def RetDw (w:World) (v:Value) (e:Ending) (w':World):Prop:=e=.returned v∧∃ n,w'=w.drewN n

theorem qd {w wr:World} {k:Nat} (h:∃ q,wr=w.drewN q):∃ n,wr.drewN k=w.drewN n:=by
 obtain ⟨q,rfl⟩:=h
 exact ⟨q+k,by simp⟩

set_option maxHeartbeats 1000000 in
set_option maxRecDepth 100000 in
theorem rcompare_any (A B:Option Addr) (n m c d X Y:Nat) (w:World) (hn:n≤1000000000) (hm:m≤1000000000) (hx:Tr w A n c X) (hy:Tr w B m d Y) :
  Calls Tryz.prog 93 #[.slice A n c,.slice B m d] w (RetDw w (.int .i64 (ord X Y))):=by
 have hnX:=hx.ln
 have hmY:=hy.ln
 rcases Nat.lt_trichotomy n m with h | h | h
 · have hlt:ord X Y=-1:=ord_lt (lt_of_nd (by omega))
   rw [hlt]
   have h1:((n:Int) != (m:Int))=true:=by simp;omega
   have h2:decide (n<m)=true:=by simpa using h
   clear hlt hnX hmY hx hy
   go_enter Tryz.func93,Tryz.ntmps93
   go_wp2
   go_ret
   exact ⟨rfl,0,rfl⟩
 · subst h
   have hstep:∀ j,X / 256^(j+1)=Y / 256^(j+1)→D 256 X j=D 256 Y j→X / 256^j=Y / 256^j:=fun j h1 h2=>by rw [div_D 256 X j,div_D 256 Y j,h1,h2]
   have hlo:∀ j,X / 256^(j+1)=Y / 256^(j+1)→D 256 X j<D 256 Y j→ord X Y=-1:=fun j h1 h2=>ord_lt (lt_of_digit h1 h2)
   have hhi:∀ j,X / 256^(j+1)=Y / 256^(j+1)→D 256 Y j<D 256 X j→ord X Y=1:=fun j h1 h2=>ord_gt (lt_of_digit h1.symm h2)
   have hst:X / 256^n=Y / 256^n:=by rw [Nat.div_eq_of_lt hx.dg.lt,Nat.div_eq_of_lt hy.dg.lt]
   have HX:=Lib.hid hx.dg.rd
   have HY:=Lib.hid hy.dg.rd
   have HS:=Lib.hid hstep
   have HL:=Lib.hid hlo
   have HH:=Lib.hid hhi
   have HT:=Lib.hid hst
   clear hx hy hstep hlo hhi hst hnX hmY
   go_enter Tryz.func93,Tryz.ntmps93
   go_wp2
   go_loopw [5] (fun i wr=>∃ k:Nat,k≤n∧i=.int .i64 ((k:Int)-1)∧Hid (X / 256^k=Y / 256^k)∧Hid (∃ q,wr=w.drewN q)) (fun i _=>(intOf i+1).toNat)
   case atStart=>exact ⟨n,Nat.le_refl _,rfl,HT.out,0,rfl⟩
   case round =>
    obtain ⟨k,hk,rfl,HE,HQ⟩:=hrel
    rcases k with _ | j
    · have e:(((0:Nat):Int)-1)=-1:=rfl
      rw [e]
      go_wp2
      go_ret
      have h:=HE.out
      simp at h
      subst h
      exact ⟨congrArg (fun z=>Ending.returned (.int .i64 z)) (ord_eq X).symm,HQ.out⟩
    · have e:(((j+1:Nat):Int)-1)=(j:Int):=by omega
      rw [e]
      clear e
      obtain ⟨g,o,rfl,hg,hcell⟩:=HX.out (by omega)
      obtain ⟨g',o',rfl,hg',hcell'⟩:=HY.out (by omega)
      have hc1:wr.cell? ⟨g,o+j,none⟩=some (.int .i64 (D 256 X j:Int)):=by obtain ⟨q,hq⟩:=HQ.out;rw [hq,World.cell?_drewN];exact hcell j (by omega)
      have hc2:wr.cell? ⟨g',o'+j,none⟩=some (.int .i64 (D 256 Y j:Int)):=by obtain ⟨q,hq⟩:=HQ.out;rw [hq,World.cell?_drewN];exact hcell' j (by omega)
      have HJ:=Lib.hid (HS.out j HE.out)
      have HJ1:=Lib.hid (HL.out j HE.out)
      have HJ2:=Lib.hid (HH.out j HE.out)
      clear hcell hcell'
      generalize D 256 X j=p at *
      generalize D 256 Y j=q at *
      rcases Nat.lt_trichotomy p q with h | h | h
      · have h1:decide (p<q)=true:=by simpa using h
        go_wp2_with fail
        go_quiet (fail)
        go_wp2
        go_ret
        exact ⟨congrArg (fun z=>Ending.returned (.int .i64 z)) (HJ1.out h).symm,by first | exact qd HQ.out | exact qd (qd HQ.out)⟩
      · subst h
        go_wp2_with fail
        go_quiet (fail)
        go_wp2_with fail
        go_quiet (fail)
        go_wp2
        go_roundw
        case rel=>exact ⟨j,by omega,rfl,HJ.out (by first | rfl | trivial),by first | exact qd HQ.out | exact qd (qd HQ.out)⟩
        case measure=>simp [intOf]
      · go_wp2_with fail
        go_quiet (fail)
        go_wp2_with fail
        go_quiet (fail)
        go_wp2
        go_ret
        exact ⟨congrArg (fun z=>Ending.returned (.int .i64 z)) (HJ2.out h).symm,by first | exact qd HQ.out | exact qd (qd HQ.out)⟩
 · have hlt:ord X Y=1:=ord_gt (lt_of_nd (by omega))
   rw [hlt]
   have h1:((n:Int) != (m:Int))=true:=by simp;omega
   have h2:decide (n<m)=false:=by simp;omega
   clear hlt hnX hmY hx hy
   go_enter Tryz.func93,Tryz.ntmps93
   go_wp2
   go_ret
   exact ⟨rfl,0,rfl⟩
end Go.Proofs.YtdbhahiieokplaaGreatDoor
