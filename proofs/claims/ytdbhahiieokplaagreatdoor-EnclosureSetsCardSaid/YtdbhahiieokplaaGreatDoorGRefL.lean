import Derived.Test.YtdbhahiieokplaaGreatDoorGIntQ
import Derived.Test.YtdbhahiieokplaaGreatDoorGLawB
import Derived.Test.YtdbhahiieokplaaGreatDoorGRefG
set_option linter.unusedSimpArgs false
set_option linter.unusedVariables false

namespace Go.Proofs.YtdbhahiieokplaaGreatDoor
open Go.RowKit
attribute [local go_sem ↓] Go.wp_at_zero Go.wp_at_succ

theorem bval_56 {a:ByteArray} (h:a.size<8):bval a<72057594037927936:=by
 have h1:=bval_lt a
 have h2:(256:Nat)^a.size≤256^7:=Nat.pow_le_pow_right (by omega) (by omega)
 have h3:(256:Nat)^7=72057594037927936:=by decide
 omega

set_option maxHeartbeats 1000000 in
set_option maxRecDepth 100000 in
theorem short_yes (na:Bool) (a:ByteArray) (ha:a.size<8) (n:Int) (hn:sgn na (bval a)=n) (w:World) :
  Calls Tryz.prog 160 #[.agg #[.bool na,.string a]] w (RetB w (.tuple #[.int .i64 n,.bool true])):=by
 have hb:=bval_56 ha
 have hw:=fun V=>word_any a (by omega) V
 generalize bval a=X at *
 subst hn
 have HW:=Lib.hid hw
 clear hw
 cases na
 all_goals
  go_enter Tryz.func160,Tryz.ntmps160
  go_wp2_with fail
  refine (HW.out _).mono ?_
  rintro e w1 ⟨rfl,rfl⟩
  go_wp2
  go_ret2
  exact ⟨rfl,(Below.refl _ _).alloc (Nat.le_refl _) _⟩

set_option maxHeartbeats 1000000 in
set_option maxRecDepth 100000 in
theorem short_no (na:Bool) (a:ByteArray) (ha:¬a.size<8) (w:World) :
  Calls Tryz.prog 160 #[.agg #[.bool na,.string a]] w (RetB w (.tuple #[.int .i64 0,.bool false])):=by
 have ha2:8≤a.size:=by omega
 clear ha
 go_enter Tryz.func160,Tryz.ntmps160
 go_wp2
 go_ret2
 exact ⟨rfl,(Below.refl _ _).alloc (Nat.le_refl _) _⟩

theorem sgn_56 (na:Bool) {X:Nat} (h:X<72057594037927936):-72057594037927936<sgn na X∧sgn na X<72057594037927936:=by cases na<;>simp [sgn]<;>omega

theorem three_keep {w w1:World} {o1 o2:Value×Value} {T:TypeId} {o3:Obj} (hb:Below ((w.alloc (.cells #[o1.1,o1.2] T)).alloc (.cells #[o2.1,o2.2] T) |>.alloc o3).heap.size (((w.alloc (.cells #[o1.1,o1.2] T)).alloc (.cells #[o2.1,o2.2] T)).alloc o3) w1) :
  w1.cell? ⟨w.heap.size,0,none⟩=some o1.1∧w1.cell? ⟨w.heap.size,1,none⟩=some o1.2∧w1.cell? ⟨w.heap.size+1,0,none⟩=some o2.1∧w1.cell? ⟨w.heap.size+1,1,none⟩=some o2.2∧w1.heap[w.heap.size+2]?=some o3∧w.heap.size+3≤w1.heap.size∧Below w.heap.size w w1:=by
 obtain ⟨k1,k2,k3⟩:=heap_three_all w (.cells #[o1.1,o1.2] T) (.cells #[o2.1,o2.2] T) o3
 obtain ⟨a0,a1,_,_⟩:=res2 k1 hb (by simp<;>omega)
 obtain ⟨a2,a3,_,_⟩:=res2 k2 hb (by simp<;>omega)
 have h3:=(hb.block (w.heap.size+2) (by simp<;>omega)).trans k3
 have hs:=hb.size
 simp at hs
 refine ⟨a0,a1,a2,a3,h3,by omega,?_⟩
 exact Below.trans ((((Below.refl _ _).alloc (Nat.le_refl _) _).alloc (by simp) _).alloc (by simp<;>omega) _) (hb.mono (by simp<;>omega))

theorem blk_cells {W:World} {g:Nat} {T:TypeId} {v0 v1:Value} (h:W.heap[g]?=some (.cells #[v0,v1] T (0,0))) :
  W.cell? ⟨g,0,none⟩=some v0∧W.cell? ⟨g,1,none⟩=some v1∧W.frozen? ⟨g,0,none⟩=false∧W.frozen? ⟨g,1,none⟩=false:=by
 refine ⟨?_,?_,?_,?_⟩<;>simp [World.cell?,World.frozen?,h]

structure Kp (w:World) (T:TypeId) (v0 v1 v2 v3:Value) (o3:Obj) (w1:World):Prop where
 a0:w1.cell? ⟨w.heap.size,0,none⟩=some v0
 a1:w1.cell? ⟨w.heap.size,1,none⟩=some v1
 a2:w1.cell? ⟨w.heap.size+1,0,none⟩=some v2
 a3:w1.cell? ⟨w.heap.size+1,1,none⟩=some v3
 blk:w1.heap[w.heap.size+2]?=some o3
 sz:w.heap.size+3≤w1.heap.size
 bel:Below w.heap.size w w1

theorem Kp.start (w:World) (T:TypeId) (v0 v1 v2 v3:Value) (o3:Obj):Kp w T v0 v1 v2 v3 o3 (((w.alloc (.cells #[v0,v1] T)).alloc (.cells #[v2,v3] T)).alloc o3):=by
 obtain ⟨a0,a1,a2,a3,a4,a5,a6⟩:=three_keep (w:=w) (o1:=(v0,v1)) (o2:=(v2,v3)) (T:=T) (o3:=o3) (Below.refl _ _)
 exact ⟨a0,a1,a2,a3,a4,a5,a6⟩

theorem Kp.next {w:World} {T:TypeId} {v0 v1 v2 v3:Value} {o3:Obj} {w1 w2:World} (h:Kp w T v0 v1 v2 v3 o3 w1) (hb:Below w1.heap.size w1 w2):Kp w T v0 v1 v2 v3 o3 w2:=by
 have hs:=h.sz
 refine ⟨(hb.cell (by show w.heap.size<_;omega)).trans h.a0,(hb.cell (by show w.heap.size<_;omega)).trans h.a1,(hb.cell (by show w.heap.size+1<_;omega)).trans h.a2,(hb.cell (by show w.heap.size+1<_;omega)).trans h.a3,(hb.block _ (by omega)).trans h.blk,?_,h.bel.trans (hb.mono h.bel.size)⟩
 have:=hb.size
 omega

theorem Kp.res {w:World} {T:TypeId} {v0 v1 v2 v3 r0 r1:Value} {w1:World} (h:Kp w T v0 v1 v2 v3 (.cells #[r0,r1] T) w1) :
 w1.cell? ⟨w.heap.size+2,0,none⟩=some r0∧w1.cell? ⟨w.heap.size+2,1,none⟩=some r1∧w1.frozen? ⟨w.heap.size+2,0,none⟩=false∧w1.frozen? ⟨w.heap.size+2,1,none⟩=false:=blk_cells h.blk

theorem Kp.stored {w:World} {T:TypeId} {v0 v1 v2 v3:Value} {o3:Obj} {w1:World} (h:Kp w T v0 v1 v2 v3 o3 w1) (x y:Value):Below w.heap.size w ((w1.setCell ⟨w.heap.size+2,0,none⟩ x).setCell ⟨w.heap.size+2,1,none⟩ y) :=
 (h.bel.setCell (by show w.heap.size≤w.heap.size+2;omega) _).setCell (by show w.heap.size≤w.heap.size+2;omega) _

set_option maxHeartbeats 2000000 in
set_option maxRecDepth 100000 in
theorem add_pair (na nb:Bool) (a b:ByteArray) (ha:a.size≤400000000) (hb:b.size≤400000000) (w:World) :
  Calls Tryz.prog 128 #[.agg #[.bool na,.string a],.agg #[.bool nb,.string b]] w (RetZ w (sgn na (bval a)+sgn nb (bval b))):=by
 have HC:=Lib.hid (fun V=>combine_any na nb nb a b ha hb V)
 have K0:=Lib.hid (Kp.start w 23 (.bool na) (.string a) (.bool nb) (.string b) (.cells #[.bool false,.string ⟨#[]⟩] 23))
 by_cases h1:a.size<8
 · by_cases h2:b.size<8
   · obtain ⟨x,hx⟩:∃ x,sgn na (bval a)=x:=⟨_,rfl⟩
     obtain ⟨y,hy⟩:∃ y,sgn nb (bval b)=y:=⟨_,rfl⟩
     have HS1:=Lib.hid (fun V=>short_yes na a h1 x hx V)
     have HS2:=Lib.hid (fun V=>short_yes nb b h2 y hy V)
     obtain ⟨x1,x2⟩:=sgn_56 na (bval_56 h1)
     obtain ⟨y1,y2⟩:=sgn_56 nb (bval_56 h2)
     rw [hx] at x1 x2
     rw [hy] at y1 y2
     rw [hx,hy]
     clear hx hy h1 h2
     go_enter Tryz.func128,Tryz.ntmps128
     go_wp2_with fail
     refine (HS1.out _).mono ?_
     rintro e w1 ⟨rfl,hb1⟩
     have K1:=Lib.hid (K0.out.next hb1)
     have q2:=K1.out.a2
     have q3:=K1.out.a3
     clear hb1
     go_wp2_with fail
     refine (HS2.out _).mono ?_
     rintro e w2 ⟨rfl,hb2⟩
     have K2:=Lib.hid (K1.out.next hb2)
     clear hb2 q2 q3
     go_wp2_with fail
     refine (fromInt_any (x+y) (by omega) (by omega) _).mono fun e w3 h=>?_
     obtain ⟨bz,mz,HZ,rfl,hb3⟩:=h.form
     have K3:=Lib.hid (K2.out.next hb3)
     obtain ⟨p0,p1,g0,g1⟩:=K3.out.res
     clear h hb3
     go_wp2
     refine bodyPost_ret (v:=.agg #[.bool bz,.string mz]) (by simp [results,Tryz.results128,go_sem,p0,p1]) rfl ⟨by rw [←HZ.out],K3.out.stored _ _⟩
   · have HS1:=Lib.hid (fun V=>short_yes na a h1 _ rfl V)
     have HS2:=Lib.hid (fun V=>short_no nb b h2 V)
     clear h1 h2
     generalize sgn na (bval a)=x at *
     go_enter Tryz.func128,Tryz.ntmps128
     go_wp2_with fail
     refine (HS1.out _).mono ?_
     rintro e w1 ⟨rfl,hb1⟩
     have K1:=Lib.hid (K0.out.next hb1)
     have q2:=K1.out.a2
     have q3:=K1.out.a3
     clear hb1
     go_wp2_with fail
     refine (HS2.out _).mono ?_
     rintro e w2 ⟨rfl,hb2⟩
     have K2:=Lib.hid (K1.out.next hb2)
     clear hb2 q2 q3
     have q0:=K2.out.a0
     have q1:=K2.out.a1
     have q2:=K2.out.a2
     have q3:=K2.out.a3
     go_wp2_with fail
     refine (HC.out _).mono fun e w3 h=>?_
     obtain ⟨bz,mz,HZ,rfl,hb3⟩:=h.form
     have K3:=Lib.hid (K2.out.next hb3)
     obtain ⟨p0,p1,g0,g1⟩:=K3.out.res
     clear h hb3 q0 q1 q2 q3
     go_wp2
     refine bodyPost_ret (v:=.agg #[.bool bz,.string mz]) (by simp [results,Tryz.results128,go_sem,p0,p1]) rfl ⟨by rw [←HZ.out],K3.out.stored _ _⟩
 · have HS1:=Lib.hid (fun V=>short_no na a h1 V)
   clear h1
   go_enter Tryz.func128,Tryz.ntmps128
   go_wp2_with fail
   refine (HS1.out _).mono ?_
   rintro e w1 ⟨rfl,hb1⟩
   have K1:=Lib.hid (K0.out.next hb1)
   clear hb1
   have q0:=K1.out.a0
   have q1:=K1.out.a1
   have q2:=K1.out.a2
   have q3:=K1.out.a3
   go_wp2_with fail
   refine (HC.out _).mono fun e w3 h=>?_
   obtain ⟨bz,mz,HZ,rfl,hb3⟩:=h.form
   have K3:=Lib.hid (K1.out.next hb3)
   obtain ⟨p0,p1,g0,g1⟩:=K3.out.res
   clear h hb3 q0 q1 q2 q3
   go_wp2
   refine bodyPost_ret (v:=.agg #[.bool bz,.string mz]) (by simp [results,Tryz.results128,go_sem,p0,p1]) rfl ⟨by rw [←HZ.out],K3.out.stored _ _⟩
end Go.Proofs.YtdbhahiieokplaaGreatDoor


namespace Go.Proofs.YtdbhahiieokplaaGreatDoor
open Go.RowKit
attribute [local go_sem ↓] Go.wp_at_zero Go.wp_at_succ

theorem sgn_not (nb:Bool) (X:Nat):sgn (!nb) X=- sgn nb X:=by cases nb<;>simp [sgn]

theorem combine_sub (na nb:Bool) (a b:ByteArray) (ha:a.size≤400000000) (hb:b.size≤400000000) (w:World) :
  Calls Tryz.prog 161 #[.agg #[.bool na,.string a],.agg #[.bool nb,.string b],.bool (!nb)] w (RetZ w (sgn na (bval a)-sgn nb (bval b))):=by
 have h:=combine_any na (!nb) nb a b ha hb w
 rw [sgn_not] at h
 exact h

set_option maxHeartbeats 2000000 in
set_option maxRecDepth 100000 in
theorem sub_pair (na nb:Bool) (a b:ByteArray) (ha:a.size≤400000000) (hb:b.size≤400000000) (w:World) :
  Calls Tryz.prog 127 #[.agg #[.bool na,.string a],.agg #[.bool nb,.string b]] w (RetZ w (sgn na (bval a)-sgn nb (bval b))):=by
 have HC:=Lib.hid (fun V=>combine_sub na nb a b ha hb V)
 have K0:=Lib.hid (Kp.start w 23 (.bool na) (.string a) (.bool nb) (.string b) (.cells #[.bool false,.string ⟨#[]⟩] 23))
 by_cases h1:a.size<8
 · by_cases h2:b.size<8
   · obtain ⟨x,hx⟩:∃ x,sgn na (bval a)=x:=⟨_,rfl⟩
     obtain ⟨y,hy⟩:∃ y,sgn nb (bval b)=y:=⟨_,rfl⟩
     have HS1:=Lib.hid (fun V=>short_yes na a h1 x hx V)
     have HS2:=Lib.hid (fun V=>short_yes nb b h2 y hy V)
     obtain ⟨x1,x2⟩:=sgn_56 na (bval_56 h1)
     obtain ⟨y1,y2⟩:=sgn_56 nb (bval_56 h2)
     rw [hx] at x1 x2
     rw [hy] at y1 y2
     rw [hx,hy]
     clear hx hy h1 h2
     go_enter Tryz.func127,Tryz.ntmps127
     go_wp2_with fail
     refine (HS1.out _).mono ?_
     rintro e w1 ⟨rfl,hb1⟩
     have K1:=Lib.hid (K0.out.next hb1)
     have q2:=K1.out.a2
     have q3:=K1.out.a3
     clear hb1
     go_wp2_with fail
     refine (HS2.out _).mono ?_
     rintro e w2 ⟨rfl,hb2⟩
     have K2:=Lib.hid (K1.out.next hb2)
     clear hb2 q2 q3
     go_wp2_with fail
     refine (fromInt_any (x-y) (by omega) (by omega) _).mono fun e w3 h=>?_
     obtain ⟨bz,mz,HZ,rfl,hb3⟩:=h.form
     have K3:=Lib.hid (K2.out.next hb3)
     obtain ⟨p0,p1,g0,g1⟩:=K3.out.res
     clear h hb3
     go_wp2
     refine bodyPost_ret (v:=.agg #[.bool bz,.string mz]) (by simp [results,Tryz.results127,go_sem,p0,p1]) rfl ⟨by rw [←HZ.out],K3.out.stored _ _⟩
   · have HS1:=Lib.hid (fun V=>short_yes na a h1 _ rfl V)
     have HS2:=Lib.hid (fun V=>short_no nb b h2 V)
     clear h1 h2
     generalize sgn na (bval a)=x at *
     go_enter Tryz.func127,Tryz.ntmps127
     go_wp2_with fail
     refine (HS1.out _).mono ?_
     rintro e w1 ⟨rfl,hb1⟩
     have K1:=Lib.hid (K0.out.next hb1)
     have q2:=K1.out.a2
     have q3:=K1.out.a3
     clear hb1
     go_wp2_with fail
     refine (HS2.out _).mono ?_
     rintro e w2 ⟨rfl,hb2⟩
     have K2:=Lib.hid (K1.out.next hb2)
     clear hb2 q2 q3
     have q0:=K2.out.a0
     have q1:=K2.out.a1
     have q2:=K2.out.a2
     have q3:=K2.out.a3
     go_wp2_with fail
     refine (HC.out _).mono fun e w3 h=>?_
     obtain ⟨bz,mz,HZ,rfl,hb3⟩:=h.form
     have K3:=Lib.hid (K2.out.next hb3)
     obtain ⟨p0,p1,g0,g1⟩:=K3.out.res
     clear h hb3 q0 q1 q2 q3
     go_wp2
     refine bodyPost_ret (v:=.agg #[.bool bz,.string mz]) (by simp [results,Tryz.results127,go_sem,p0,p1]) rfl ⟨by rw [←HZ.out],K3.out.stored _ _⟩
 · have HS1:=Lib.hid (fun V=>short_no na a h1 V)
   clear h1
   go_enter Tryz.func127,Tryz.ntmps127
   go_wp2_with fail
   refine (HS1.out _).mono ?_
   rintro e w1 ⟨rfl,hb1⟩
   have K1:=Lib.hid (K0.out.next hb1)
   clear hb1
   have q0:=K1.out.a0
   have q1:=K1.out.a1
   have q2:=K1.out.a2
   have q3:=K1.out.a3
   go_wp2_with fail
   refine (HC.out _).mono fun e w3 h=>?_
   obtain ⟨bz,mz,HZ,rfl,hb3⟩:=h.form
   have K3:=Lib.hid (K1.out.next hb3)
   obtain ⟨p0,p1,g0,g1⟩:=K3.out.res
   clear h hb3 q0 q1 q2 q3
   go_wp2
   refine bodyPost_ret (v:=.agg #[.bool bz,.string mz]) (by simp [results,Tryz.results127,go_sem,p0,p1]) rfl ⟨by rw [←HZ.out],K3.out.stored _ _⟩


theorem enc_parts {x:Int} {b:Bool} {m:ByteArray} (h:enc x=.agg #[.bool b,.string m]):b=decide (x<0)∧m=mag x.natAbs:=by
 unfold enc at h;cases h;exact ⟨rfl,rfl⟩
theorem enc_sgn {x:Int} {b:Bool} {m:ByteArray} (h:enc x=.agg #[.bool b,.string m]):sgn b (bval m)=x:=by
 obtain ⟨rfl,rfl⟩:=enc_parts h
 rw [bval_mag]
 unfold sgn
 by_cases h0:x<0<;>simp [h0]<;>omega
theorem enc_neg {x:Int} {b:Bool} {m:ByteArray} (h:enc x=.agg #[.bool b,.string m]):enc (-x)=.agg #[.bool (!b && decide (0<m.size)),.string m]:=by
 obtain ⟨rfl,rfl⟩:=enc_parts h
 have hz:(mag x.natAbs).size=0↔x.natAbs=0:=mag_zero_iff
 unfold enc
 rw [Int.natAbs_neg]
 have e:decide (-x<0)=(!decide (x<0) && decide (0<(mag x.natAbs).size)):=by
  by_cases h0:x<0
  · have h4:¬-x<0:=by omega
    rw [decide_eq_true h0,decide_eq_false h4]
    rfl
  · by_cases h1:x=0
    · have h2:¬0<(mag x.natAbs).size:=by have:=hz.2 (by omega);omega
      have h4:¬-x<0:=by omega
      rw [decide_eq_false h0,decide_eq_false h4,decide_eq_false h2]
      rfl
    · have h2:0<(mag x.natAbs).size:=by omega
      have h3:-x<0:=by omega
      rw [decide_eq_false h0,decide_eq_true h3,decide_eq_true h2]
      rfl
 rw [e]

theorem enc_abs {x:Int} {b:Bool} {m:ByteArray} (h:enc x=.agg #[.bool b,.string m]):enc (x.natAbs:Int)=.agg #[.bool false,.string m]:=by
 obtain ⟨rfl,rfl⟩:=enc_parts h
 unfold enc
 have:¬((x.natAbs:Int)<0):=by omega
 simp [this]

theorem zf2 {F:FuncId} {z:Int} {b b' c:Bool} {m m' k:ByteArray} (hz:enc z=.agg #[.bool c,.string k]) {w:World}
  (h:Calls Tryz.prog F #[.agg #[.bool b,.string m],.agg #[.bool b',.string m']] w (RetZ w z)):Calls Tryz.prog F #[.agg #[.bool b,.string m],.agg #[.bool b',.string m']] w (RetB w (.agg #[.bool c,.string k])):=by
 unfold RetZ at h;rw [hz] at h;exact h

section
variable {x y z:Int} {b1 b2 b3:Bool} {m1 m2 m3:ByteArray} (hx:enc x=.agg #[.bool b1,.string m1]) (hy:enc y=.agg #[.bool b2,.string m2]) (s1:m1.size≤100000) (s2:m2.size≤100000) (hz:enc z=.agg #[.bool b3,.string m3])
include hx hy s1 s2 hz

theorem add_f (e:z=x+y) (w:World):Calls Tryz.prog 128 #[.agg #[.bool b1,.string m1],.agg #[.bool b2,.string m2]] w (RetB w (.agg #[.bool b3,.string m3])):=by
 subst e
 have h:=add_pair b1 b2 m1 m2 (by omega) (by omega) w
 rw [enc_sgn hx,enc_sgn hy] at h
 exact zf2 hz h
theorem sub_f (e:z=x-y) (w:World):Calls Tryz.prog 127 #[.agg #[.bool b1,.string m1],.agg #[.bool b2,.string m2]] w (RetB w (.agg #[.bool b3,.string m3])):=by
 subst e
 have h:=sub_pair b1 b2 m1 m2 (by omega) (by omega) w
 rw [enc_sgn hx,enc_sgn hy] at h
 exact zf2 hz h
theorem mul_f (e:z=x*y) (w:World):Calls Tryz.prog 99 #[.agg #[.bool b1,.string m1],.agg #[.bool b2,.string m2]] w (RetB w (.agg #[.bool b3,.string m3])):=by
 subst e
 have p1:=(enc_parts hx).2
 have p2:=(enc_parts hy).2
 have h:=mul_any x y (by rw [←p1];exact s1) (by rw [←p2];exact s2) w
 rw [hx,hy] at h
 exact zf2 hz h
end

set_option maxHeartbeats 1000000 in
set_option maxRecDepth 100000 in
theorem negate_pair (na:Bool) (a:ByteArray) (w:World) :
  Calls Tryz.prog 131 #[.agg #[.bool na,.string a]] w (RetB w (.agg #[.bool (!na && decide (0<a.size)),.string a])):=by
 by_cases h:0<a.size
 · have he:=empty_no h
   cases na
   all_goals
    go_enter Tryz.func131,Tryz.ntmps131
    go_wp2
    refine bodyPost_ret (v:=.agg #[.bool _,.string a]) (by simp [results,Tryz.results131,go_sem];rfl) rfl ⟨?_,((Below.refl _ _).alloc (Nat.le_refl _) _).alloc (by simp) _⟩
    simp [h]
 · have he:=empty_yes h
   cases na
   all_goals
    go_enter Tryz.func131,Tryz.ntmps131
    go_wp2
    refine bodyPost_ret (v:=.agg #[.bool _,.string a]) (by simp [results,Tryz.results131,go_sem];rfl) rfl ⟨?_,((Below.refl _ _).alloc (Nat.le_refl _) _).alloc (by simp) _⟩
    simp [h]

set_option maxHeartbeats 1000000 in
set_option maxRecDepth 100000 in
theorem abs_pair (na:Bool) (a:ByteArray) (w:World) :
  Calls Tryz.prog 133 #[.agg #[.bool na,.string a]] w (RetB w (.agg #[.bool false,.string a])):=by
 go_enter Tryz.func133,Tryz.ntmps133
 go_wp2
 refine bodyPost_ret (v:=.agg #[.bool false,.string a]) (by simp [results,Tryz.results133,go_sem]) rfl ⟨rfl,((Below.refl _ _).alloc (Nat.le_refl _) _).alloc (by simp) _⟩

theorem negate_f {x:Int} {b:Bool} {m:ByteArray} {c:Bool} {k:ByteArray} (hx:enc x=.agg #[.bool b,.string m]) (hz:enc (-x)=.agg #[.bool c,.string k]) (w:World) :
  Calls Tryz.prog 131 #[.agg #[.bool b,.string m]] w (RetB w (.agg #[.bool c,.string k])):=by
 have h:=negate_pair b m w
 rw [←enc_neg hx,hz] at h
 exact h
theorem abs_f {x:Int} {b:Bool} {m:ByteArray} {c:Bool} {k:ByteArray} (hx:enc x=.agg #[.bool b,.string m]) (hz:enc (x.natAbs:Int)=.agg #[.bool c,.string k]) (w:World) :
  Calls Tryz.prog 133 #[.agg #[.bool b,.string m]] w (RetB w (.agg #[.bool c,.string k])):=by
 have h:=abs_pair b m w
 rw [←enc_abs hx,hz] at h
 exact h
end Go.Proofs.YtdbhahiieokplaaGreatDoor


namespace Go.Proofs.YtdbhahiieokplaaGreatDoor
open Go.RowKit
attribute [local go_sem ↓] Go.wp_at_zero Go.wp_at_succ

theorem Kp.drew {w:World} {T:TypeId} {v0 v1 v2 v3:Value} {o3:Obj} {w1:World} (h:Kp w T v0 v1 v2 v3 o3 w1):Kp w T v0 v1 v2 v3 o3 w1.drew :=
 h.next (Below.refl _ _).drew

end Go.Proofs.YtdbhahiieokplaaGreatDoor


namespace Go.Proofs.YtdbhahiieokplaaGreatDoor
open Go.RowKit
attribute [local go_sem ↓] Go.wp_at_zero Go.wp_at_succ

section
variable {x y z:Int} {b1 b2 b3:Bool} {m1 m2 m3:ByteArray} (hx:enc x=.agg #[.bool b1,.string m1]) (hy:enc y=.agg #[.bool b2,.string m2]) (s1:m1.size≤100000) (s2:m2.size≤100000) (hz:enc z=.agg #[.bool b3,.string m3])
include hx hy s1 s2 hz

end
end Go.Proofs.YtdbhahiieokplaaGreatDoor
