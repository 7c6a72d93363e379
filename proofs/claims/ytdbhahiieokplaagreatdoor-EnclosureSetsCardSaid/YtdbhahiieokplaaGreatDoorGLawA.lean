import Derived.Test.YtdbhahiieokplaaGreatDoorGQB
import Derived.Test.YtdbhahiieokplaaGreatDoorGIntC
set_option linter.unusedSimpArgs false
set_option linter.unusedVariables false

namespace Go.Proofs.YtdbhahiieokplaaGreatDoor
open Go.RowKit
attribute [local go_sem ↓] Go.wp_at_zero Go.wp_at_succ

def B64:Nat:=18446744073709551616
theorem B64_eq:B64=18446744073709551616:=rfl
theorem B64_pos:0<B64:=by decide
theorem D64_lt (V i:Nat):D B64 V i<18446744073709551616:=D_lt B64_pos V i

structure Ng (w:World) (A:Option Addr) (n c V:Nat):Prop where
 lt:V<B64^n
 cap:n≤c
 rd:Rd w .u64 A n (D B64 V)

theorem Ng.below {w w':World} {A:Option Addr} {n c V:Nat} (h:Ng w A n c V) (hb:Below w.heap.size w w'):Ng w' A n c V:=⟨h.lt,h.cap,h.rd.below hb⟩
theorem Ng.alloc {w:World} {A:Option Addr} {n c V:Nat} (h:Ng w A n c V) (o:Obj):Ng (w.alloc o) A n c V:=⟨h.lt,h.cap,h.rd.alloc o⟩
theorem Ng.drewN {w:World} {A:Option Addr} {n c V:Nat} (h:Ng w A n c V) (k:Nat):Ng (w.drewN k) A n c V:=⟨h.lt,h.cap,h.rd⟩

structure Nm (w:World) (A:Option Addr) (n c V:Nat):Prop extends Ng w A n c V where
 top:0<n→B64^(n-1)≤V

theorem Nm.below {w w':World} {A:Option Addr} {n c V:Nat} (h:Nm w A n c V) (hb:Below w.heap.size w w'):Nm w' A n c V:=⟨h.toNg.below hb,h.top⟩
theorem Nm.zero {w:World} {A:Option Addr} {n c V:Nat} (h:Nm w A n c V):n=0↔V=0:=by
 constructor
 · rintro rfl;have:=h.lt;simpa using this
 · intro h0
   rcases Nat.eq_zero_or_pos n with h1 | h1
   · exact h1
   · have:=h.top h1
     have hp:0<B64^(n-1):=Nat.pow_pos B64_pos
     omega

theorem topD {b V n:Nat} (hb:0<b) (h:V<b^n):∃ k,k≤n∧V<b^k∧(∀ i,k≤i→i<n→D b V i=0)∧(0<k→D b V (k-1)≠0∧b^(k-1)≤V):=by
 induction n with
 | zero=>exact ⟨0,Nat.le_refl _,h,fun i h1 h2=>by omega,fun h=>by omega⟩
 | succ n ih =>
   rcases Nat.lt_or_ge V (b^n) with h1 | h1
   · obtain ⟨k,a1,a2,a3,a4⟩:=ih h1
     refine ⟨k,by omega,a2,fun i b1 b2=>?_,a4⟩
     by_cases e:i=n
     · rw [e];exact D_zero_of hb h1 (Nat.le_refl _)
     · exact a3 i b1 (by omega)
   · exact ⟨n+1,Nat.le_refl _,h,fun i b1 b2=>by omega,fun _=>⟨D_pos hb h1 h,h1⟩⟩

def RetT (w:World) (A:Option Addr) (c n V:Nat) (e:Ending) (w':World):Prop:=∃ m,m≤n∧e=.returned (.slice A m c)∧Nm w' A m c V∧w=w'

set_option maxHeartbeats 1000000 in
set_option maxRecDepth 100000 in
theorem trim_any (A:Option Addr) (n c V:Nat) (w:World) (hn:n≤1099511627776) (h:Ng w A n c V) :
  Calls Tryz.prog 165 #[.slice A n c] w (RetT w A c n V):=by
 obtain ⟨k0,hk0,hV,hz,ht⟩:=topD B64_pos h.lt
 have hcap:=h.cap
 have HV:=Lib.hid hV
 have HZ:=Lib.hid hz
 have HT:=Lib.hid ht
 have HR:=Lib.hid h
 clear hV hz ht h
 go_enter Tryz.func165,Tryz.ntmps165
 go_wp2
 go_loop [0] (fun v=>∃ k:Nat,k≤n∧k0≤k∧v=.slice A k c) (fun v=>match v with | .slice _ k _=>k | _=>0)
 case atStart=>exact ⟨n,Nat.le_refl _,hk0,rfl⟩
 case round =>
  obtain ⟨k,hk,hkk,rfl⟩:=hrel
  by_cases h0:k0<k
  · have hr:=HR.out
    obtain ⟨g,o,rfl,hg,hcell⟩:=hr.rd (by omega)
    have hc1:w.cell? ⟨g,o+(k-1),none⟩=some (.int .u64 0):=by rw [hcell (k-1) (by omega),HZ.out (k-1) (by omega) (by omega)];rfl
    clear hcell hr
    go_wp2
    go_round
    case rel=>exact ⟨k-1,by omega,by omega,by first | rfl | simp⟩
    case measure=>simp<;>omega
  · obtain rfl:k=k0:=by omega
    by_cases h1:0<k
    · have hr:=HR.out
      obtain ⟨g,o,rfl,hg,hcell⟩:=hr.rd (by omega)
      have hc1:w.cell? ⟨g,o+(k-1),none⟩=some (.int .u64 (D B64 V (k-1):Int)):=hcell (k-1) (by omega)
      have hne:((D B64 V (k-1):Int)==0)=false:=by have:=(HT.out h1).1;simp;omega
      clear hcell hr
      go_wp2
      go_ret
      exact ⟨k,hk,rfl,⟨⟨HV.out,by omega,HR.out.rd.take hk⟩,fun h=>(HT.out h).2⟩,rfl⟩
    · go_wp2
      go_ret
      exact ⟨k,hk,rfl,⟨⟨HV.out,by omega,HR.out.rd.take hk⟩,fun h=>(HT.out h).2⟩,rfl⟩
end Go.Proofs.YtdbhahiieokplaaGreatDoor


namespace Go.Proofs.YtdbhahiieokplaaGreatDoor
open Go.RowKit
attribute [local go_sem ↓] Go.wp_at_zero Go.wp_at_succ

theorem natInfo:(Tryz.prog.info? 146).map (fun i=>(i.zero,i.size,i.bytes))=some (some (.int .u64 0),1,8):=by kernel_rfl

theorem bval_suffix (s:ByteArray) (k:Nat) (hk:k≤s.size):bval (s.extract (s.size-k) s.size)=bval s%256^k:=by
 have hs:(s.extract (s.size-k) s.size).size=k:=by simp;omega
 rw [←val_D]
 show val 256 (dig _) (s.extract (s.size-k) s.size).size=_
 rw [hs]
 refine val_congr fun i hi=>?_
 rw [←dig_eq]
 unfold dig
 rw [dif_pos (by omega),dif_pos (by omega)]
 congr 1
 rw [ByteArray.getElem_extract]
 congr 1
 omega

theorem bval_prefix (s:ByteArray) (k:Nat) (hk:k≤s.size):bval (s.extract 0 (s.size-k))=bval s / 256^k:=by
 have hs:(s.extract 0 (s.size-k)).size=s.size-k:=by simp
 have hlt:bval s / 256^k<256^(s.size-k):=by
  apply Nat.div_lt_of_lt_mul
  rw [←Nat.pow_add,show k+(s.size-k)=s.size by omega]
  exact bval_lt s
 rw [←Nat.mod_eq_of_lt hlt,←val_D]
 show val 256 (dig _) (s.extract 0 (s.size-k)).size=_
 rw [hs]
 refine val_congr fun i hi=>?_
 have e:D 256 (bval s / 256^k) i=D 256 (bval s) (k+i):=by unfold D;rw [Nat.div_div_eq_div_mul,Nat.pow_add]
 rw [e,←dig_eq]
 unfold dig
 rw [dif_pos (by omega),dif_pos (by omega)]
 congr 1
 rw [ByteArray.getElem_extract]
 congr 1
 omega

def RetU (w:World) (v:Value) (V N:Nat) (e:Ending) (w':World):Prop :=
 ∃ A n c,n≤N∧e=.returned (.slice A n c)∧Nm w' A n c V∧w.grownBy w' v.ownBlock∧(Value.ownBlock (.slice A n c)=v.ownBlock∨∀ k,Value.ownBlock (.slice A n c)=some k→w.heap.size≤k)

def RetUo (w:World) (v:Value) (base V N:Nat) (e:Ending) (w':World):Prop :=
 ∃ A n c,n≤N∧e=.returned (.slice A n c)∧Nm w' A n c V∧w.grownBy w' v.ownBlock∧(Value.ownBlock (.slice A n c)=v.ownBlock∨∀ k,Value.ownBlock (.slice A n c)=some k→w.heap.size≤k)∧Own w' base (.slice A n c) n (nums .u64 (D B64 V) n)

theorem D_top {V j:Nat} {t:Nat} (h:V / B64^j=t) (ht:t<18446744073709551616):D B64 V j=t∧V<B64^(j+1):=by
 have hp:0<B64^j:=Nat.pow_pos B64_pos
 constructor
 · unfold D;rw [h,B64_eq];exact Nat.mod_eq_of_lt ht
 · rw [Nat.pow_succ,B64_eq]
   have:V<B64^j*18446744073709551616:=by
    rw [←h] at ht
    rw [Nat.mul_comm]
    exact (Nat.div_lt_iff_lt_mul hp).1 ht
   exact this

theorem grown_none {a b c:World} {row row':Option Nat} (h:a.grownBy b row) (hg:b.grownBy c row') (hB:row'=none∨row'=row∨∀ k,row'=some k→a.heap.size≤k):a.grownBy c row :=
 ⟨hg.os.trans h.os,hg.tape.trans h.tape,hg.output.trans h.output,Nat.le_trans h.size hg.size,fun k hk hne=>(hg.block k (Nat.lt_of_lt_of_le hk h.size) (fun e=>by
  rcases hB with hB | hB | hB
  · rw [hB] at e;cases e
  · exact hne (by rw [e];exact hB)
  · have:=hB k e.symm;omega)).trans (h.block k hk hne)⟩

theorem World.grownBy.trans_alloc {a b:World} {row:Option Nat} (h:a.grownBy b row) (o:Obj):a.grownBy (b.alloc o) row :=
 grown_none h (World.grownBy_alloc b o none) (.inl rfl)

theorem own_next' {w1:World} {base:Nat} {K:IntKind} {v:Value} {k:Nat} {f:Nat→Nat} {d:Nat} (h:Own w1 base v (k+1) (nums K f k++[.int K (d:Int)])) (hd:d=f k):Own w1 base v (k+1) (nums K f (k+1)):=by
 rw [nums_succ,←hd];exact h

theorem one_cell' {w:World} {u v:Value} {t:TypeId}:∀ j x,[v][j]?=some x→u=v→(w.alloc (.cells #[u] t)).cell? ((⟨w.heap.size,0,none⟩:Addr).add j)=some x:=by
 intro j x hj he
 match j,hj with
 | 0,hj=>simp at hj;subst hj;subst he;simp [Addr.add]

theorem pow256_64:(256:Nat)^8=B64:=by decide

set_option maxHeartbeats 2000000 in
set_option maxRecDepth 100000 in
theorem unpack_own (v:Value) (s:ByteArray) (base:Nat) (w:World) (hs:s.size≤1000000000) (hbase:base≤w.heap.size) (hv:Own w base v 0 []) :
  Calls Tryz.prog 140 #[v,.string s] w (RetUo w v base (bval s) (s.size / 8+1)):=by
 obtain ⟨i0,hi,hz0,hz1,hz2⟩:=info_parts natInfo
 have HV:=Lib.hid hv
 clear hv
 go_enter Tryz.func140,Tryz.ntmps140
 go_wp2
 go_loopw [0,1] (fun x m wr=>∃ (j:Nat) (t:ByteArray),8*j+t.size=s.size∧m=.string t∧Hid (bval t=bval s / B64^j)∧Own wr base x j (nums .u64 (D B64 (bval s)) j)∧w.grownBy wr v.ownBlock ∧
  (x.ownBlock=v.ownBlock∨∀ k,x.ownBlock=some k→w.heap.size≤k)) (fun _ m _=>match m with | .string t=>t.size | _=>0)
 case atStart=>exact ⟨0,s,by omega,rfl,by show _=_;simp,HV.out,World.grownBy.refl _ _,.inl rfl⟩
 case round =>
  obtain ⟨j,t,hjt,rfl,ht,hown,hg,hblk⟩:=hrel
  by_cases hlt:8<t.size
  · have hsu:=bval_suffix t 8 (by omega)
    have hpr:=bval_prefix t 8 (by omega)
    have hw8:=fun W=>word_any (t.extract (t.size-8) t.size) (by simp;omega) W
    have hd:D B64 (bval s) j=bval (t.extract (t.size-8) t.size):=by
     rw [hsu,ht.out,pow256_64];rfl
    have hp2:bval (t.extract 0 (t.size-8))=bval s / B64^(j+1):=by
     rw [hpr,ht.out,pow256_64,Nat.pow_succ,Nat.div_div_eq_div_mul]
    rw [←hd] at hw8
    have HW8:=Lib.hid hw8
    have HP2:=Lib.hid hp2
    clear hsu hpr hw8 hd hp2
    go_wp2_with fail
    refine (HW8.out _).mono ?_
    rintro e w' ⟨rfl,rfl⟩
    go_wp2_with (at_builtin;refine wpList_append_Own _ rfl _ _ 153 rfl base 146 i0 (.int .u64 0) 8 Tryz.underlying153 hi hz0 hz1 hz2 rfl _ _ _ rfl (hown.alloc _) ⟨wr.heap.size,0,none⟩ 1 1 [.int .u64 (D B64 (bval s) j:Int)] rfl rfl (by omega) ?_ ?_ ?_ ?_ ?_ ?_)
    · intro q u hq;exact one_cell' q u hq rfl
    · intro u hu;simp at hu;subst hu;rfl
    · unfold maxLen;omega
    · omega
    · have:=hg.size;simp;omega
    intro v' w2 hown' hgrow hat
    have hown2:=own_next' hown' rfl
    have hg2:w.grownBy w2 v.ownBlock:=grown_none (World.grownBy.trans_alloc hg _) hgrow (by
     rcases hblk with h | h
     · exact .inr (.inl h)
     · exact .inr (.inr h))
    have hblk2:v'.ownBlock=v.ownBlock∨∀ k,v'.ownBlock=some k→w.heap.size≤k:=by
     have:=hg.size
     rcases hat with h | h
     · rw [h];exact hblk
     · right;intro k hk;rw [h] at hk;simp at hk;omega
    clear hown' hgrow hat hown hg hblk
    go_wp2
    go_roundw
    case rel=>exact ⟨j+1,t.extract 0 (t.size-8),by simp;omega,rfl,HP2.out,hown2,hg2,hblk2⟩
    case measure=>simp<;>omega
  · have hd : D B64 (bval s) j = bval t ∧ bval s < B64 ^ (j + 1) := by
     have hb:bval t<18446744073709551616:=by
      have h1:=bval_lt t
      have h2:(256:Nat)^t.size≤256^8:=Nat.pow_le_pow_right (by omega) (by omega)
      have h3:(256:Nat)^8=18446744073709551616:=by decide
      omega
     exact D_top ht.out.symm hb
    have hw8:=fun W=>word_any t (by omega) W
    rw [←hd.1] at hw8
    have HW8:=Lib.hid hw8
    have HD:=Lib.hid hd
    clear hw8 hd
    go_wp2_with fail
    refine (HW8.out _).mono ?_
    rintro e w' ⟨rfl,rfl⟩
    go_wp2_with (at_builtin;refine wpList_append_Own _ rfl _ _ 153 rfl base 146 i0 (.int .u64 0) 8 Tryz.underlying153 hi hz0 hz1 hz2 rfl _ _ _ rfl (hown.alloc _) ⟨wr.heap.size,0,none⟩ 1 1 [.int .u64 (D B64 (bval s) j:Int)] rfl rfl (by omega) ?_ ?_ ?_ ?_ ?_ ?_)
    · intro q u hq;exact one_cell' q u hq rfl
    · intro u hu;simp at hu;subst hu;rfl
    · unfold maxLen;omega
    · omega
    · have:=hg.size;simp;omega
    intro v' w2 hown' hgrow hat
    have hown2:=own_next' hown' rfl
    have hg2:w.grownBy w2 v.ownBlock:=grown_none (World.grownBy.trans_alloc hg _) hgrow (by
     rcases hblk with h | h
     · exact .inr (.inl h)
     · exact .inr (.inr h))
    have hblk2:v'.ownBlock=v.ownBlock∨∀ k,v'.ownBlock=some k→w.heap.size≤k:=by
     have:=hg.size
     rcases hat with h | h
     · rw [h];exact hblk
     · right;intro k hk;rw [h] at hk;simp at hk;omega
    clear hown' hgrow hat hown hg hblk
    obtain ⟨A2,c2,rfl,hc2,hr2⟩:=hown2.rd
    have HOWN:=Lib.hid hown2
    clear hown2
    go_wp2_with fail
    refine (trim_any A2 (j+1) c2 (bval s) _ (by omega) ⟨HD.out.2,hc2,hr2⟩).mono ?_
    rintro e w' ⟨m,hm,rfl,hnm,rfl⟩
    have HNM:=Lib.hid hnm
    clear hnm hr2
    go_wp2
    go_ret
    exact ⟨A2,m,c2,by omega,rfl,HNM.out,hg2,by cases A2<;>exact hblk2,HOWN.out.take hm⟩

theorem unpack_any (v:Value) (s:ByteArray) (base:Nat) (w:World) (hs:s.size≤1000000000) (hbase:base≤w.heap.size) (hv:Own w base v 0 []) :
  Calls Tryz.prog 140 #[v,.string s] w (RetU w v (bval s) (s.size / 8+1)) :=
 (unpack_own v s base w hs hbase hv).mono fun _ _ ⟨A,n,c,h1,h2,h3,h4,h5,_⟩=>⟨A,n,c,h1,h2,h3,h4,h5⟩
end Go.Proofs.YtdbhahiieokplaaGreatDoor


namespace Go.Proofs.YtdbhahiieokplaaGreatDoor
open Go.RowKit
attribute [local go_sem ↓] Go.wp_at_zero Go.wp_at_succ

theorem D_byte (V i r:Nat) (hr:r<8):D 256 (D B64 V i) r=D 256 V (8*i+r):=by
 have e:B64=256^8:=by decide
 unfold D
 rw [e,←Nat.pow_mul,Nat.pow_add,←Nat.div_div_eq_div_mul]
 generalize V / 256^(8*i)=X
 have e2:(256:Nat)^8=256^r*(256*256^(7-r)):=by
  rw [←Nat.mul_assoc,←Nat.pow_succ,←Nat.pow_add]
  congr 1
  omega
 rw [e2,Nat.mod_mul_right_div_self,Nat.mod_mul_right_mod]

theorem pack_places (k V:Nat) (hk:0<k) (hV:V<B64^k) (ht:B64^(k-1)≤V):∃ lz z,z<8∧64-Lib.bitLen (D B64 V (k-1))=lz∧lz / 8=z∧lz≤63∧V<256^(8*k-z)∧D 256 V (8*k-1-z)≠0:=by
 have e:B64=256^8:=by decide
 have hp:0<B64^(k-1):=Nat.pow_pos B64_pos
 have hk1:B64^k=B64^(k-1+1):=by rw [Nat.sub_add_cancel hk]
 have hd0:D B64 V (k-1)≠0:=D_pos B64_pos ht (by rw [←hk1];exact hV)
 obtain ⟨lz,z,h1,h2,h3,h4,h5,h6⟩:=word_places (D B64 V (k-1)) hd0 (D64_lt _ _)
 have hd:V / B64^(k-1)=D B64 V (k-1):=by
  unfold D
  rw [Nat.mod_eq_of_lt]
  exact Nat.div_lt_of_lt_mul (by rw [←Nat.pow_succ,←hk1];exact hV)
 have q1:V<256^(8*k-z):=by
  have a:V<B64^(k-1)*256^(8-z):=by
   rw [←hd] at h6
   have:=(Nat.div_lt_iff_lt_mul hp).1 h6
   rwa [Nat.mul_comm]
  rw [e,←Nat.pow_mul,←Nat.pow_add,show 8*(k-1)+(8-z)=8*k-z by omega] at a
  exact a
 have q2:256^(8*k-1-z)≤V:=by
  have a:256^(7-z)*B64^(k-1)≤V:=by
   rw [←hd] at h5
   exact (Nat.le_div_iff_mul_le hp).1 h5
  rw [e,←Nat.pow_mul,←Nat.pow_add,show 7-z+8*(k-1)=8*k-1-z by omega] at a
  exact a
 exact ⟨lz,z,h1,h2,h3,h4,q1,D_pos (by omega) q2 (by rwa [show 8*k-1-z+1=8*k-z by omega])⟩

theorem nums_append (K:IntKind) (f:Nat→Nat) (a b:Nat):nums K f (a+b)=nums K f a++nums K (fun i=>f (a+i)) b:=by
 induction b with
 | zero=>simp [nums]
 | succ b ih=>rw [←Nat.add_assoc,nums_succ,nums_succ,ih,List.append_assoc]

theorem cells_new (w:World) (C:Array Value) (T:TypeId) (l:List Value) (h:C.toList=l):∀ j u,l[j]?=some u→(w.alloc (.cells C T)).cell? ((⟨w.heap.size,0,none⟩:Addr).add j)=some u:=by
 intro j u hj
 rw [Addr.add_lit,Nat.zero_add,cell_of_row _ w.heap.size j C T (0,0) (heap_alloc_new w _)]
 subst h
 simpa using hj

theorem bytes8 (d:Nat) (hd:d<18446744073709551616):#[Value.int .u8 ((d:Int) / 72057594037927936),.int .u8 ((d:Int) / 281474976710656%256),.int .u8 ((d:Int) / 1099511627776%256),.int .u8 ((d:Int) / 4294967296%256),
  .int .u8 ((d:Int) / 16777216%256),.int .u8 ((d:Int) / 65536%256),.int .u8 ((d:Int) / 256%256),.int .u8 ((d:Int)%256)].toList=nums .u8 (fun p=>D 256 d (7-p)) 8:=by
 simp [nums,List.range_succ,D]
 omega

set_option maxHeartbeats 2000000 in
set_option maxRecDepth 100000 in
theorem pack_any (neg:Bool) (A:Option Addr) (n c V:Nat) (w:World) (hn:n≤1000000000) (h:Ng w A n c V) :
  Calls Tryz.prog 139 #[.bool neg,.slice A n c] w (RetZ w (sgn neg V)):=by
 have HR:=Lib.hid h
 clear h
 obtain ⟨i0,hi,hz0,hz1,hz2⟩:=info_parts byteTy_info
 go_enter Tryz.func139,Tryz.ntmps139
 go_wp2_with fail
 refine (trim_any A n c V _ (by omega) (HR.out.alloc _)).mono ?_
 rintro e w1 ⟨k,hk,rfl,hm,rfl⟩
 have HM:=Lib.hid hm
 clear hm
 by_cases h0:0<k
 · obtain ⟨lz,z,hz,hlz,hzz,hl,hhi,htop⟩:=pack_places k V h0 HM.out.lt (HM.out.top h0)
   have HLZ:=Lib.hid hlz
   have HHI:=Lib.hid hhi
   have HTOP:=Lib.hid htop
   have hq:(lz:Int) / 8=(z:Int):=by omega
   clear hlz hhi htop hzz
   have hk0:((k:Int)==0)=false:=by simp;omega
   go_wp2
   go_loopw [6,7] (fun v i wr=>∃ j:Nat,j≤k∧i=.int .i64 ((k:Int)-1-j)∧Own wr (w.heap.size+1) v (8*j) (nums .u8 (fun p=>D 256 V (8*k-1-p)) (8*j)) ∧
    Below (w.heap.size+1) (w.alloc (.cells #[.bool false,.string ⟨#[]⟩] 23)) wr∧w.heap.size+2≤wr.heap.size) (fun _ i _=>(intOf i+1).toNat)
   case atStart=>exact ⟨0,by omega,by simp,Own.start (heap_two _ _ _) (Nat.le_refl _) (by simp) (by simp [maxLen]),(Below.refl _ _).alloc (by simp) _,by simp⟩
   case round =>
    obtain ⟨j,hj,rfl,hown,hbl,hsz⟩:=hrel
    by_cases hlt:j<k
    · have hnr:=HM.out.below (hbl.mono (by simp))
      obtain ⟨g,o,rfl,hg,hcell⟩:=hnr.rd (by omega)
      have hcj:wr.cell? ⟨g,o+(k-1-j),none⟩=some (.int .u64 (D B64 V (k-1-j):Int)):=hcell _ (by omega)
      have hd:=D64_lt V (k-1-j)
      have hD:=Lib.hid (D_byte V (k-1-j))
      clear hcell hnr
      generalize D B64 V (k-1-j)=d at *
      go_wp2_with (at_builtin;refine wpList_append_Own _ rfl _ _ 159 rfl (w.heap.size+1) 5 i0 (.int .u8 0) 1 Tryz.underlying159 hi hz0 hz1 hz2 rfl _ _ _ rfl (hown.alloc _) ⟨wr.heap.size,0,none⟩ 8 8 (nums .u8 (fun p=>D 256 d (7-p)) 8) rfl (by rw [nums_length]) (by omega) ?_ ?_ ?_ ?_ ?_ ?_)
      · exact cells_new wr _ _ _ (bytes8 d hd)
      · intro u hu;unfold nums at hu;obtain ⟨_,_,rfl⟩:=List.mem_map.1 hu;rfl
      · unfold maxLen;omega
      · omega
      · simp;omega
      intro v' w2 hown' hgrow hat
      have hown2:Own w2 (w.heap.size+1) v' (8*(j+1)) (nums .u8 (fun p=>D 256 V (8*k-1-p)) (8*(j+1))):=by
       have e:nums .u8 (fun p=>D 256 d (7-p)) 8=nums .u8 (fun i=>D 256 V (8*k-1-(8*j+i))) 8:=nums_congr fun p hp=>by
        rw [hD.out (7-p) (by omega)]
        congr 1
        omega
       rw [show 8*(j+1)=8*j+8 by omega,nums_append,←e]
       exact hown'
      have hbl1:Below (w.heap.size+1) wr w2:=((Below.refl _ _).alloc (by omega) _).grown hgrow (by simp;omega) (fun g hg=>((hown.lt) g hg).1)
      have hsz2:=hbl1.size
      clear hgrow hown' hown hat
      go_wp2
      go_roundw
      case rel=>exact ⟨j+1,by omega,by go_num,hown2,hbl.trans hbl1,by omega⟩
      case measure=>simp [intOf]<;>omega
    · obtain rfl:j=k:=by omega
      have hnr:=HM.out.below (hbl.mono (by simp))
      obtain ⟨g,o,rfl,hg,hcell⟩:=hnr.rd (by omega)
      have hcj:wr.cell? ⟨g,o+(j-1),none⟩=some (.int .u64 (D B64 V (j-1):Int)):=hcell _ (by omega)
      have hd:=D64_lt V (j-1)
      have ho:=hown
      obtain ⟨A2,c2,rfl,hc2,hr2⟩:=hown.rd
      obtain ⟨g2,o2,rfl,hg2,hcell2⟩:=hr2 (by omega)
      have hstr:=str_of_cells wr 159 9 5 Tryz.underlying159 Tryz.underlying5 Tryz.underlying9 g2 (o2+z) (8*j-z) (c2-z) (fun p=>D 256 V (8*j-1-(z+p))) (fun i hi=>D_lt (by omega) _ _) (fun i hi=>by
       rw [Nat.add_assoc,hcell2 (z+i) (by omega)])
      obtain ⟨q0,q1,f0,f1⟩:=res2 (g:=w.heap.size) (by exact heap_one _ _) hbl (by simp)
      clear hcell hnr hown ho hr2 hcell2
      generalize D B64 V (j-1)=d at *
      go_wp2_with fail
      refine (lz_any d lz HLZ.out hd _).mono ?_
      rintro e w' ⟨rfl,rfl⟩
      go_wp2
      refine bodyPost_ret (v:=.agg #[.bool neg,.string (bytesOf (fun p=>D 256 V (8*j-1-(z+p))) (8*j-z))]) (by simp [results,Tryz.results139,go_sem,q0,q1]) rfl ⟨?_,?_⟩
      · refine congrArg Ending.returned (sgn_enc (fun i hi=>D_lt (by omega) _ _) (fun _=>by rw [Nat.add_zero];exact HTOP.out) ?_ ?_)
        · rw [val_congr (g:=D 256 V) (fun i hi=>by rw [show 8*j-1-(z+(8*j-z-1-i))=i by omega]),val_D,Nat.mod_eq_of_lt HHI.out]
        · intro h
          have:=HTOP.out
          rw [h] at this
          simp [D] at this
      · exact ((((Below.refl _ _).alloc (Nat.le_refl _) _).trans (hbl.mono (by omega))).setCell (by simp) _).setCell (by simp) _
 · go_wp2
   refine bodyPost_ret (v:=.agg #[.bool false,.string ⟨#[]⟩]) (by simp [results,Tryz.results139,go_sem]) rfl ⟨?_,(Below.refl _ _).alloc (Nat.le_refl _) _⟩
   have hV:V=0:=HM.out.zero.1 (by omega)
   rw [hV,sgn_zero,enc_zero]
end Go.Proofs.YtdbhahiieokplaaGreatDoor


namespace Go.Proofs.YtdbhahiieokplaaGreatDoor
open Go.RowKit
attribute [local go_sem ↓] Go.wp_at_zero Go.wp_at_succ

theorem mul64_any (x y:Nat) (hx:x<18446744073709551616) (hy:y<18446744073709551616) (hi lo:Nat) (h1:x*y / 18446744073709551616=hi) (h2:x*y%18446744073709551616=lo) (w:World) :
  Calls Tryz.prog 138 #[.int .u64 (x:Int),.int .u64 (y:Int)] w (RetV w (.tuple #[.int .u64 (hi:Int),.int .u64 (lo:Int)])) :=
 (Tryz.bits_Mul64 x y hx hy w).mono fun e w' ⟨he,hw⟩=>⟨by rw [he,h1,h2],hw.symm⟩

theorem RetQ.form {w:World} {q r err:Int} {e:Ending} {w':World} (h:RetQ w q r err e w'):∃ b1 m1 b2 m2,Hid (enc q=.agg #[.bool b1,.string m1])∧Hid (enc r=.agg #[.bool b2,.string m2]) ∧
 e=.returned (.tuple #[.agg #[.bool b1,.string m1],.agg #[.bool b2,.string m2],.int .i64 err])∧Below w.heap.size w w':=⟨_,_,_,_,rfl,rfl,h.1,h.2⟩

theorem heap_four (w:World) (o1 o2 o3 o4:Obj):((((w.alloc o1).alloc o2).alloc o3).alloc o4).heap[w.heap.size]?=some o1∧((((w.alloc o1).alloc o2).alloc o3).alloc o4).heap[w.heap.size+1]?=some o2 ∧
  ((((w.alloc o1).alloc o2).alloc o3).alloc o4).heap[w.heap.size+2]?=some o3∧((((w.alloc o1).alloc o2).alloc o3).alloc o4).heap[w.heap.size+3]?=some o4:=by
 have h4:=heap_one (((w.alloc o1).alloc o2).alloc o3) o4
 refine ⟨?_,?_,?_,by simpa using h4⟩
 · exact (Below.heap_alloc _ _ _ (by simp<;>omega)).trans ((Below.heap_alloc _ _ _ (by simp<;>omega)).trans (heap_fst _ _ _))
 · exact (Below.heap_alloc _ _ _ (by simp<;>omega)).trans ((Below.heap_alloc _ _ _ (by simp<;>omega)).trans (heap_two _ _ _))
 · exact (Below.heap_alloc _ _ _ (by simp<;>omega)).trans (heap_three _ _ _ _)

theorem rd_two (w:World) (g:Nat) (T:TypeId) (a b:Nat) (f:Nat→Nat) (h:w.heap[g]?=some (.cells #[.int .u64 (a:Int),.int .u64 (b:Int)] T (0,0))) (h0:f 0=a) (h1:f 1=b):Rd w .u64 (some ⟨g,0,none⟩) 2 f:=fun _=>by
 refine ⟨g,0,rfl,(Array.getElem?_eq_some_iff.1 h).1,fun i hi=>?_⟩
 match i,hi with
 | 0,_=>rw [h0];simp [World.cell?,h]
 | 1,_=>rw [h1];simp [World.cell?,h]

theorem bval_64 {a:ByteArray} (h:a.size≤8):bval a<18446744073709551616:=by
 have h1:=bval_lt a
 have h2:(256:Nat)^a.size≤256^8:=Nat.pow_le_pow_right (by omega) h
 have h3:(256:Nat)^8=18446744073709551616:=by decide
 omega

set_option maxHeartbeats 2000000 in
set_option maxRecDepth 100000 in
theorem mul_short (na nb:Bool) (a b:ByteArray) (ha:a.size≤8) (hb:b.size≤8) (w:World) :
  Calls Tryz.prog 99 #[.agg #[.bool na,.string a],.agg #[.bool nb,.string b]] w (RetZ w (sgn (na != nb) (bval a*bval b))):=by
 have hx:=bval_64 ha
 have hy:=bval_64 hb
 have hV:bval a*bval b<B64^2:=by
  have h1:=Nat.mul_lt_mul'' hx hy
  rw [B64_eq,Nat.pow_two]
  exact h1
 have hlo:D B64 (bval a*bval b) 0=bval a*bval b%18446744073709551616:=by simp [D,B64_eq]
 have hhi:D B64 (bval a*bval b) 1=bval a*bval b / 18446744073709551616:=by
  unfold D
  rw [Nat.pow_one,Nat.mod_eq_of_lt]
  · rw [B64_eq]
  · exact Nat.div_lt_of_lt_mul (by rw [←Nat.pow_two];exact hV)
 generalize hxa:bval a=x at *
 generalize hyb:bval b=y at *
 generalize hVV:x*y=V at *
 have HVV:=Lib.hid hVV
 have HV:=Lib.hid hV
 obtain ⟨lo,hl⟩:∃ lo,D B64 V 0=lo:=⟨_,rfl⟩
 obtain ⟨hi,hh⟩:∃ hi,D B64 V 1=hi:=⟨_,rfl⟩
 have HL:=Lib.hid hl
 have HH:=Lib.hid hh
 have HLO:=Lib.hid (hlo.symm.trans hl)
 have HHI:=Lib.hid (hhi.symm.trans hh)
 have HX:=Lib.hid hxa
 have HY:=Lib.hid hyb
 clear hV hlo hhi hxa hyb hVV hl hh
 go_enter Tryz.func99,Tryz.ntmps99
 go_wp2_with fail
 refine (words_yes na nb a b ha hb _).mono ?_
 rintro e w1 ⟨rfl,hb1⟩
 obtain ⟨p0,p1,g0,g1⟩:=res2 (g:=w.heap.size+2) (by exact heap_three _ _ _ _) hb1 (by simp)
 rw [HX.out,HY.out]
 go_wp2_with fail
 refine (mul64_any x y hx hy hi lo (by rw [HVV.out];exact HHI.out) (by rw [HVV.out];exact HLO.out) _).mono ?_
 rintro e w' ⟨rfl,rfl⟩
 go_wp2_with fail
 refine (pack_any _ _ 2 2 V _ (by omega) ⟨HV.out,by omega,rd_two _ _ _ lo hi _ (heap_one _ _) HL.out HH.out⟩).mono fun e w2 h=>?_
 obtain ⟨b2,m2,HB2,rfl,hb2⟩:=h.form
 have hbA:Below w1.heap.size w1 (w1.alloc (.cells #[.int .u64 (lo:Int),.int .u64 (hi:Int)] 146)):=(Below.refl _ _).alloc (Nat.le_refl _) _
 have hb3:=hb1.trans ((hbA.trans (hb2.mono hbA.size)).mono hb1.size)
 obtain ⟨p0,p1,g0,g1⟩:=res2 (g:=w.heap.size+2) (by exact heap_three _ _ _ _) hb3 (by simp)
 have HB3:=Lib.hid hb3
 clear h hb1 hb2 hb3
 go_wp2
 refine bodyPost_ret (v:=.agg #[.bool b2,.string m2]) (by simp [results,Tryz.results99,go_sem,p0,p1]) rfl ⟨?_,?_⟩
 · rw [←HB2.out]
   have e:(!na==nb)=(na != nb):=by cases na<;>cases nb<;>rfl
   first | rw [e] | rfl
 · exact ((Below.trans ((((Below.refl _ _).alloc (Nat.le_refl _) _).alloc (by simp<;>omega) _).alloc (by simp<;>omega) _) (HB3.out.mono (B':=w.heap.size) (by simp<;>omega))).setCell (by simp<;>omega) _).setCell (by simp<;>omega) _

set_option maxHeartbeats 2000000 in
set_option maxRecDepth 100000 in
theorem divMod_short (na nb:Bool) (a b:ByteArray) (ha:a.size≤8) (hb:b.size≤8) (h0:bval b≠0) (w:World) :
  Calls Tryz.prog 142 #[.agg #[.bool na,.string a],.agg #[.bool nb,.string b]] w (RetQ w (sgn na (bval a) / sgn nb (bval b)) (sgn na (bval a)%sgn nb (bval b)) 0):=by
 have hx:=bval_64 ha
 have hy:=bval_64 hb
 generalize hxa:bval a=x at *
 generalize hyb:bval b=y at *
 have HX:=Lib.hid hxa
 have HY:=Lib.hid hyb
 have hne:((y:Int) != 0)=true:=by simp;omega
 clear hxa hyb
 go_enter Tryz.func142,Tryz.ntmps142
 go_wp2_with fail
 refine (words_yes na nb a b ha hb _).mono ?_
 rintro e w1 ⟨rfl,hb1⟩
 obtain ⟨k1,k2,k3,k4⟩:=heap_four w (.cells #[.bool na,.string a] 23) (.cells #[.bool nb,.string b] 23) (.cells #[.bool false,.string ⟨#[]⟩] 23) (.cells #[.bool false,.string ⟨#[]⟩] 23)
 have HK3:=Lib.hid k3
 have HK4:=Lib.hid k4
 obtain ⟨c0,c1,d0,d1⟩:=res2 (g:=w.heap.size) (by exact k1) hb1 (by simp<;>omega)
 obtain ⟨c2,c3,d2,d3⟩:=res2 (g:=w.heap.size+1) (by exact k2) hb1 (by simp<;>omega)
 clear k1 k2 k3 k4
 rw [HX.out,HY.out]
 go_wp2_with fail
 refine (divModWords_any na nb x y hx hy h0 _).mono fun e w2 h=>?_
 obtain ⟨b1,m1,b2,m2,HB1,HB2,rfl,hb2⟩:=h.form
 have hb3:=hb1.trans (hb2.mono hb1.size)
 obtain ⟨p0,p1,g0,g1⟩:=res2 (g:=w.heap.size+2) (by exact HK3.out) hb3 (by simp<;>omega)
 obtain ⟨q0,q1,f0,f1⟩:=res2 (g:=w.heap.size+3) (by exact HK4.out) hb3 (by simp<;>omega)
 have HB3:=Lib.hid hb3
 clear h hb1 hb2 hb3 c0 c1 d0 d1 c2 c3 d2 d3
 go_wp2
 refine bodyPost_ret (v:=.tuple #[.agg #[.bool b1,.string m1],.agg #[.bool b2,.string m2],.int .i64 0]) (by simp [results,Tryz.results142,go_sem,p0,p1,q0,q1]) rfl ⟨?_,?_⟩
 · rw [←HB1.out,←HB2.out]
 · exact ((((Below.trans (((((Below.refl _ _).alloc (Nat.le_refl _) _).alloc (by simp<;>omega) _).alloc (by simp<;>omega) _).alloc (by simp<;>omega) _) (HB3.out.mono (B':=w.heap.size) (by simp<;>omega))).setCell (by simp<;>omega) _).setCell (by simp<;>omega) _).setCell (by simp<;>omega) _).setCell (by simp<;>omega) _
end Go.Proofs.YtdbhahiieokplaaGreatDoor


namespace Go.Proofs.YtdbhahiieokplaaGreatDoor
open Go.RowKit
attribute [local go_sem ↓] Go.wp_at_zero Go.wp_at_succ

def RetB (w:World) (v:Value) (e:Ending) (w':World):Prop:=e=.returned v∧Below w.heap.size w w'

end Go.Proofs.YtdbhahiieokplaaGreatDoor
