import Derived.Test.YtpnokfgplnmjpaaGreatDoorGSgQ
import Derived.Test.YtpnokfgplnmjpaaGreatDoorGRefO
import Derived.Test.YtpnokfgplnmjpaaGreatDoorGStC
import Derived.Test.YtpnokfgplnmjpaaGreatDoorGRefN
import Derived.StringKeys
import Derived.Test.YtpnokfgplnmjpaaGreatDoorGLawA
import Derived.Test.YtpnokfgplnmjpaaGreatDoorGRefG
import Derived.Test.YtpnokfgplnmjpaaGreatDoorGRefL
import Derived.Test.YtpnokfgplnmjpaaGreatDoorGLate
import Derived.Deep.RegionLaw
set_option linter.unusedSimpArgs false
set_option linter.unusedVariables false

namespace Go.Proofs.YtpnokfgplnmjpaaGreatDoor
open Go.RowKit

theorem qset {W:World} {g:Nat} {T:TypeId} {x0 x1:Value} (h:W.heap[g]?=some (.cells #[x0,x1] T (0,0))) (x y:Value):((W.setCell ⟨g,0,none⟩ x).setCell ⟨g,1,none⟩ y).heap[g]?=some (.cells #[x,y] T (0,0)):=by
 simp [World.setCell,Array.getElem?_modify,h]
theorem qoth {W:World} {g k:Nat} (hne:k≠g) (x y:Value):((W.setCell ⟨g,0,none⟩ x).setCell ⟨g,1,none⟩ y).heap[k]?=W.heap[k]? :=
 (Below.heap_setCell _ ⟨g,1,none⟩ y k hne).trans (Below.heap_setCell _ ⟨g,0,none⟩ x k hne)
theorem qsz {W:World} {g:Nat} (x y:Value):((W.setCell ⟨g,0,none⟩ x).setCell ⟨g,1,none⟩ y).heap.size=W.heap.size:=by simp [World.setCell]

structure Kb (w:World) (c1 c2:Array Value) (T1 T2:TypeId) (wx:World):Prop where
 k1:wx.heap[w.heap.size]?=some (.cells c1 T1 (0,0))
 k2:wx.heap[w.heap.size+1]?=some (.cells c2 T2 (0,0))
 sz:w.heap.size+2≤wx.heap.size
 bel:Below w.heap.size w wx

structure Kc (w:World) (c1 c2 c3:Array Value) (T1 T2 T3:TypeId) (wx:World):Prop where
 k1:wx.heap[w.heap.size]?=some (.cells c1 T1 (0,0))
 k2:wx.heap[w.heap.size+1]?=some (.cells c2 T2 (0,0))
 k3:wx.heap[w.heap.size+2]?=some (.cells c3 T3 (0,0))
 sz:w.heap.size+3≤wx.heap.size
 bel:Below w.heap.size w wx

section
variable {w w1 w2:World} {c1 c2 c3:Array Value} {T1 T2 T3:TypeId}
theorem Kb.start (w:World) (c1 c2:Array Value) (T1 T2:TypeId):Kb w c1 c2 T1 T2 ((w.alloc (.cells c1 T1)).alloc (.cells c2 T2)) :=
 ⟨heap_fst _ _ _,heap_two _ _ _,by simp,((Below.refl _ _).alloc (Nat.le_refl _) _).alloc (by simp) _⟩
theorem Kb.next (h:Kb w c1 c2 T1 T2 w1) (hb:Below w1.heap.size w1 w2):Kb w c1 c2 T1 T2 w2:=by
 have hs:=h.sz
 refine ⟨(hb.block _ (by omega)).trans h.k1,(hb.block _ (by omega)).trans h.k2,?_,h.bel.trans (hb.mono h.bel.size)⟩
 have:=hb.size
 omega
theorem Kb.drew (h:Kb w c1 c2 T1 T2 w1):Kb w c1 c2 T1 T2 w1.drew:=h.next (Below.refl _ _).drew
theorem Kb.drewN (h:Kb w c1 c2 T1 T2 w1) (n:Nat):Kb w c1 c2 T1 T2 (w1.drewN n):=h.next (below_draws (Below.refl _ _) n)
theorem Kc.start (w:World) (c1 c2 c3:Array Value) (T1 T2 T3:TypeId):Kc w c1 c2 c3 T1 T2 T3 (((w.alloc (.cells c1 T1)).alloc (.cells c2 T2)).alloc (.cells c3 T3)):=by
 obtain ⟨k1,k2,k3⟩:=heap_three_all w (.cells c1 T1) (.cells c2 T2) (.cells c3 T3)
 exact ⟨k1,k2,k3,by simp,(((Below.refl _ _).alloc (Nat.le_refl _) _).alloc (by simp) _).alloc (by simp<;>omega) _⟩
theorem Kc.next (h:Kc w c1 c2 c3 T1 T2 T3 w1) (hb:Below w1.heap.size w1 w2):Kc w c1 c2 c3 T1 T2 T3 w2:=by
 have hs:=h.sz
 refine ⟨(hb.block _ (by omega)).trans h.k1,(hb.block _ (by omega)).trans h.k2,(hb.block _ (by omega)).trans h.k3,?_,h.bel.trans (hb.mono h.bel.size)⟩
 have:=hb.size
 omega
theorem Kc.drew (h:Kc w c1 c2 c3 T1 T2 T3 w1):Kc w c1 c2 c3 T1 T2 T3 w1.drew:=h.next (Below.refl _ _).drew
theorem Kc.drewN (h:Kc w c1 c2 c3 T1 T2 T3 w1) (n:Nat):Kc w c1 c2 c3 T1 T2 T3 (w1.drewN n):=h.next (below_draws (Below.refl _ _) n)
theorem Kc.set1 {x0 x1:Value} (h:Kc w #[x0,x1] c2 c3 T1 T2 T3 w1) (x y:Value):Kc w #[x,y] c2 c3 T1 T2 T3 ((w1.setCell ⟨w.heap.size,0,none⟩ x).setCell ⟨w.heap.size,1,none⟩ y) :=
 ⟨qset h.k1 x y,(qoth (by omega) x y).trans h.k2,(qoth (by omega) x y).trans h.k3,by rw [qsz];exact h.sz,(h.bel.setCell (Nat.le_refl _) _).setCell (Nat.le_refl _) _⟩
theorem Kc.set2 {x0 x1:Value} (h:Kc w c1 #[x0,x1] c3 T1 T2 T3 w1) (x y:Value):Kc w c1 #[x,y] c3 T1 T2 T3 ((w1.setCell ⟨w.heap.size+1,0,none⟩ x).setCell ⟨w.heap.size+1,1,none⟩ y) :=
 ⟨(qoth (by omega) x y).trans h.k1,qset h.k2 x y,(qoth (by omega) x y).trans h.k3,by rw [qsz];exact h.sz,(h.bel.setCell (by show w.heap.size≤w.heap.size+1;omega) _).setCell (by show w.heap.size≤w.heap.size+1;omega) _⟩
end

theorem blk3 {W:World} {g:Nat} {T:TypeId} {v0 v1 v2:Value} (h:W.heap[g]?=some (.cells #[v0,v1,v2] T (0,0))) :
  W.cell? ⟨g,0,none⟩=some v0∧W.cell? ⟨g,1,none⟩=some v1∧W.cell? ⟨g,2,none⟩=some v2∧W.frozen? ⟨g,0,none⟩=false∧W.frozen? ⟨g,1,none⟩=false∧W.frozen? ⟨g,2,none⟩=false:=by
 refine ⟨?_,?_,?_,?_,?_,?_⟩<;>simp [World.cell?,World.frozen?,h]
theorem blk4 {W:World} {g:Nat} {T:TypeId} {v0 v1 v2 v3:Value} (h:W.heap[g]?=some (.cells #[v0,v1,v2,v3] T (0,0))) :
  W.cell? ⟨g,0,none⟩=some v0∧W.cell? ⟨g,1,none⟩=some v1∧W.cell? ⟨g,2,none⟩=some v2∧W.cell? ⟨g,3,none⟩=some v3:=by
 refine ⟨?_,?_,?_,?_⟩<;>simp [World.cell?,World.frozen?,h]
theorem fro4 {W:World} {g:Nat} {T:TypeId} {v0 v1 v2 v3:Value} (h:W.heap[g]?=some (.cells #[v0,v1,v2,v3] T (0,0))) :
  W.frozen? ⟨g,0,none⟩=false∧W.frozen? ⟨g,1,none⟩=false∧W.frozen? ⟨g,2,none⟩=false∧W.frozen? ⟨g,3,none⟩=false:=by
 refine ⟨?_,?_,?_,?_⟩<;>simp [World.cell?,World.frozen?,h]
theorem below_set4 {B:Nat} {a W:World} {g:Nat} (h:Below B a W) (hB:B≤g) (x y z u:Value):Below B a ((((W.setCell ⟨g,0,none⟩ x).setCell ⟨g,1,none⟩ y).setCell ⟨g,2,none⟩ z).setCell ⟨g,3,none⟩ u) :=
 (((h.setCell hB _).setCell hB _).setCell hB _).setCell hB _
theorem below_set2 {B:Nat} {a W:World} {g:Nat} (h:Below B a W) (hB:B≤g) (x y:Value):Below B a ((W.setCell ⟨g,0,none⟩ x).setCell ⟨g,1,none⟩ y) :=
 (h.setCell hB _).setCell hB _

def dm (d:Nat):ByteArray:=if d=1 then mag 0 else mag d

structure Rq (q:Rat) (b:Bool) (m k:ByteArray):Prop where
 num:enc q.num=.agg #[.bool b,.string m]
 den:k=dm q.den

theorem Rq.some_ (q:Rat):∃ b m k,Rq q b m k:=⟨_,_,_,rfl,rfl⟩

theorem mag_nil:mag 0=⟨#[]⟩:=by unfold mag;rw [magL_zero]
theorem dm_one:dm 1=⟨#[]⟩:=by unfold dm;rw [if_pos rfl,mag_nil]

structure Env (w:World):Prop where
 tab:Tab w
 lt:0<w.heap.size
 o0:w.cell? ⟨0,0,none⟩=some (.bool false)
 o1:w.cell? ⟨0,1,none⟩=some (.string ⟨#[1]⟩)
theorem Env.below {w w':World} {B:Nat} (h:Env w) (hb:Below B w w') (hB:w.heap.size≤B):Env w' :=
 ⟨h.tab.below hb (Nat.lt_of_lt_of_le h.tab.lt hB),Nat.lt_of_lt_of_le h.lt hb.size,(hb.cell (p:=⟨0,0,none⟩) (Nat.lt_of_lt_of_le h.lt hB)).trans h.o0,(hb.cell (p:=⟨0,1,none⟩) (Nat.lt_of_lt_of_le h.lt hB)).trans h.o1⟩
theorem Env.next {w w':World} (h:Env w) (hb:Below w.heap.size w w'):Env w':=h.below hb (Nat.le_refl _)
structure EnvT (w:World):Prop where
 env:Env w
 ten:Ten w
theorem EnvT.next {w w':World} (h:EnvT w) (hb:Below w.heap.size w w'):EnvT w':=⟨h.env.next hb,h.ten.below hb (Nat.le_refl _)⟩
theorem Env.drew {w:World} (h:Env w):Env w.drew:=h.next (Below.refl _ _).drew
end Go.Proofs.YtpnokfgplnmjpaaGreatDoor


namespace Go.Proofs.YtpnokfgplnmjpaaGreatDoor
open Go.RowKit
attribute [local go_sem ↓] Go.wp_at_zero Go.wp_at_succ

theorem str_ne {s t:ByteArray} (h:s≠t):(s.data.toList==t.data.toList)=false∧(s.toList==t.toList)=false:=by
 have hnt:¬s.data.toList=t.data.toList:=fun e=>h (by cases s;cases t;simp at e;rw [e])
 have hnl:(s.data.toList==t.data.toList)=false:=by simpa using hnt
 exact ⟨hnl,by rw [ByteArray.toList_eq,ByteArray.toList_eq];exact hnl⟩

theorem below_two (w1:World) (o1 o2:Obj):Below w1.heap.size w1 ((w1.alloc o1).alloc o2):=((Below.refl _ _).alloc (Nat.le_refl _) _).alloc (by simp) _
theorem toList_ne {s:ByteArray} {l:List UInt8} (h:s≠⟨l.toArray⟩):¬s.toList=l:=fun e=>h (by
 rw [ByteArray.toList_eq] at e
 cases s
 simp at e
 rw [←e])
theorem enc_mag (n:Nat):enc (n:Int)=.agg #[.bool false,.string (mag n)]:=by
 unfold enc
 have h:decide ((n:Int)<0)=false:=by simp
 rw [h,Int.natAbs_natCast]
theorem mag_ne {n m:Nat} (h:n≠m):mag n≠mag m:=fun e=>h (mag_inj e)
theorem mag_one:mag 1=⟨#[1]⟩:=by
 have h:magL 1=[1]:=by rw [magL_pos (by decide),show 1 / 256=0 from rfl,magL_zero];rfl
 unfold mag
 rw [h]
theorem mag_no_nil {n:Nat} (h:n≠0):mag n≠⟨#[]⟩:=by rw [←mag_nil];exact mag_ne h
theorem mag_no_one {n:Nat} (h:n≠1):mag n≠⟨#[1]⟩:=by rw [←mag_one];exact mag_ne h

set_option maxHeartbeats 1000000 in
set_option maxRecDepth 100000 in
theorem isInteger_yes (b:Bool) (m:ByteArray) (w:World):Calls Tryz.prog 125 #[.agg #[.bool b,.string m,.bool false,.string ⟨#[]⟩]] w (RetB w (.bool true)):=by
 go_enter Tryz.func125,Tryz.ntmps125
 go_wp2
 go_ret
 exact ⟨rfl,below_new _ _⟩

set_option maxHeartbeats 1000000 in
set_option maxRecDepth 100000 in
theorem isInteger_no (b:Bool) (m k:ByteArray) (hk:k≠⟨#[]⟩) (w:World):Calls Tryz.prog 125 #[.agg #[.bool b,.string m,.bool false,.string k]] w (RetB w (.bool false)):=by
 obtain ⟨h1,h2⟩:=str_ne hk
 have hs:0<k.size:=by
  rcases Nat.eq_zero_or_pos k.size with h | h
  · exact absurd (ext_bytes (t:=⟨#[]⟩) h (fun i h1 _=>by omega)) hk
  · exact h
 have h3:=empty_no hs
 clear hk
 go_enter Tryz.func125,Tryz.ntmps125
 go_wp2
 go_ret
 exact ⟨rfl,below_new _ _⟩

theorem Rq.mag {q:Rat} {b:Bool} {m k:ByteArray} (h:Rq q b m k):b=decide (q.num<0)∧m=Go.Proofs.YtpnokfgplnmjpaaGreatDoor.mag q.num.natAbs:=enc_parts h.num
theorem Rq.den1 {q:Rat} {b:Bool} {m k:ByteArray} (h:Rq q b m k) (h1:q.den=1):k=⟨#[]⟩:=by rw [h.den,h1,dm_one]
theorem Rq.den2 {q:Rat} {b:Bool} {m k:ByteArray} (h:Rq q b m k) (h1:q.den≠1):k=Go.Proofs.YtpnokfgplnmjpaaGreatDoor.mag q.den:=by rw [h.den];unfold dm;rw [if_neg h1]

set_option maxHeartbeats 1000000 in
set_option maxRecDepth 100000 in
theorem den_f {q:Rat} {b:Bool} {m k:ByteArray} (h:Rq q b m k) (w:World) (hE:Env w):Calls Tryz.prog 94 #[.agg #[.bool b,.string m,.bool false,.string k]] w (RetB w (.agg #[.bool false,.string (mag q.den)])):=by
 have KK:=Lib.hid (Kb.start w #[.bool b,.string m,.bool false,.string k] #[.bool false,.string ⟨#[]⟩] 25 23)
 have HE:=Lib.hid hE
 by_cases hden:q.den=1
 · obtain rfl:=h.den1 hden
   rw [hden,mag_one]
   clear h hE hden
   go_enter Tryz.func94,Tryz.ntmps94
   go_wp2_with fail
   refine (isInteger_yes b m _).mono ?_
   rintro e w1 ⟨rfl,hb1⟩
   have K1:=Lib.hid (KK.out.next hb1)
   obtain ⟨p0,p1,f0,f1⟩:=blk_cells K1.out.k2
   have hE1:=HE.out.next K1.out.bel
   have o0:=hE1.o0
   have o1:=hE1.o1
   clear hb1 hE1
   go_wp2
   exact bodyPost_ret (v:=.agg #[.bool false,.string ⟨#[1]⟩]) (by simp [results,Tryz.results94,go_sem,p0,p1]) rfl ⟨rfl,below_set2 K1.out.bel (by omega) _ _⟩
 · obtain rfl:=h.den2 hden
   have HNO:=Lib.hid (isInteger_no b m (mag q.den) (mag_no_nil q.den_nz))
   generalize Go.Proofs.YtpnokfgplnmjpaaGreatDoor.mag q.den=k at *
   clear h hE hden
   go_enter Tryz.func94,Tryz.ntmps94
   go_wp2_with fail
   refine (HNO.out _).mono ?_
   rintro e w1 ⟨rfl,hb1⟩
   have K1:=Lib.hid (KK.out.next hb1)
   obtain ⟨p0,p1,f0,f1⟩:=blk_cells K1.out.k2
   obtain ⟨q0,q1,q2,q3⟩:=blk4 K1.out.k1
   clear hb1
   go_wp2
   exact bodyPost_ret (v:=.agg #[.bool false,.string k]) (by simp [results,Tryz.results94,go_sem,p0,p1]) rfl ⟨rfl,below_set2 K1.out.bel (by omega) _ _⟩

set_option maxHeartbeats 1000000 in
set_option maxRecDepth 100000 in
theorem coprime_f (b:Bool) (m:ByteArray) (d:Nat) (w:World) (hE:Env w):Calls Tryz.prog 129 #[.agg #[.bool b,.string m],.agg #[.bool false,.string (mag d)]] w (RetB w (.agg #[.bool b,.string m,.bool false,.string (dm d)])):=by
 have hlt:=hE.lt
 have o0:=hE.o0
 have o1:=hE.o1
 have KK:=Lib.hid (Kc.start w #[.bool b,.string m] #[.bool false,.string (mag d)] #[.bool false,.string ⟨#[]⟩,.bool false,.string ⟨#[]⟩] 23 23 25)
 have hE0:=hE.next KK.out.bel
 have g0:=hE0.o0
 have g1:=hE0.o1
 clear hE hE0 o0 o1
 by_cases hden:d=1
 · subst hden
   rw [dm_one,mag_one]
   rw [mag_one] at KK g0 g1
   obtain ⟨t0,t1,t2,t3⟩:=blk4 KK.out.k3
   obtain ⟨f0,f1,f2,f3⟩:=fro4 KK.out.k3
   go_enter Tryz.func129,Tryz.ntmps129
   go_wp2
   exact bodyPost_ret (v:=.agg #[.bool b,.string m,.bool false,.string ⟨#[]⟩]) (by simp [results,Tryz.results129,go_sem,t0,t1,t2,t3]) rfl ⟨rfl,(Kc.start w _ _ _ _ _ _).bel⟩
 · have hdm:dm d=mag d:=by unfold dm;rw [if_neg hden]
   rw [hdm]
   have hk1:=toList_ne (mag_no_one hden)
   generalize mag d=k at *
   obtain ⟨t0,t1,t2,t3⟩:=blk4 KK.out.k3
   obtain ⟨f0,f1,f2,f3⟩:=fro4 KK.out.k3
   clear hdm hden
   go_enter Tryz.func129,Tryz.ntmps129
   go_wp2
   exact bodyPost_ret (v:=.agg #[.bool b,.string m,.bool false,.string k]) (by simp [results,Tryz.results129,go_sem,t0,t1,t2,t3]) rfl ⟨rfl,(Kc.start w _ _ _ _ _ _).bel⟩

set_option maxHeartbeats 1000000 in
set_option maxRecDepth 100000 in
theorem common_f {x:Int} {b c:Bool} {m mg:ByteArray} {d:Nat} (hx:enc x=.agg #[.bool b,.string m]) (hg:enc ((Nat.gcd x.natAbs d:Nat):Int)=.agg #[.bool c,.string mg]) (h1:m.size≤100000) (h2:(mag d).size≤100000) (w:World) (hE:Env w) :
  Calls Tryz.prog 131 #[.agg #[.bool b,.string m],.agg #[.bool false,.string (mag d)]] w (RetB w (.agg #[.bool c,.string mg])):=by
 have KK:=Lib.hid (Kc.start w #[.bool b,.string m] #[.bool false,.string (mag d)] #[.bool false,.string ⟨#[]⟩] 23 23 23)
 have hlt:=hE.lt
 have hE0:=hE.next KK.out.bel
 have HE0:=Lib.hid hE0
 have g0:=hE0.o0
 have g1:=hE0.o1
 clear hE hE0
 by_cases hden:d=1
 · subst hden
   rw [Nat.gcd_one_right,show (((1:Nat):Int))=1 from rfl,show enc 1=.agg #[.bool false,.string ⟨#[1]⟩] from by rw [←mag_one];rfl] at hg
   injection hg with hg
   have hc:c=false∧mg=⟨#[1]⟩:=by
    simp at hg
    exact ⟨by first | exact hg.1 | exact hg.1.symm,by first | exact hg.2 | exact hg.2.symm⟩
   obtain ⟨rfl,rfl⟩:=hc
   rw [mag_one]
   rw [mag_one] at KK g0 g1
   obtain ⟨p0,p1,f0,f1⟩:=blk_cells KK.out.k3
   clear hx hg h2 HE0
   go_enter Tryz.func131,Tryz.ntmps131
   go_wp2
   exact bodyPost_ret (v:=.agg #[.bool false,.string ⟨#[1]⟩]) (by simp [results,Tryz.results131,go_sem,p0,p1]) rfl ⟨rfl,(Kc.start w _ _ _ _ _ _).bel⟩
 · have hk1:=toList_ne (mag_no_one hden)
   have HG:=Lib.hid (fun V (hV:Env V)=>gcd_f hx (show enc (d:Int)=.agg #[.bool false,.string (mag d)] from enc_mag d) (bg:=c) (mg:=mg) (by rw [Int.natAbs_natCast];exact hg) (by omega) (by omega) V hV.tab)
   generalize mag d=k at *
   clear hx hg hden h1 h2
   go_enter Tryz.func131,Tryz.ntmps131
   go_wp2_with fail
   refine (HG.out _ HE0.out).mono ?_
   rintro e w1 ⟨rfl,hb1⟩
   have K1:=Lib.hid (KK.out.next hb1)
   obtain ⟨p0,p1,f0,f1⟩:=blk_cells K1.out.k3
   clear hb1 g0 g1
   go_wp2
   exact bodyPost_ret (v:=.agg #[.bool c,.string mg]) (by simp [results,Tryz.results131,go_sem,p0,p1]) rfl ⟨rfl,below_set2 K1.out.bel (by omega) _ _⟩

set_option maxHeartbeats 1000000 in
set_option maxRecDepth 100000 in
theorem quotient_f {x z:Int} {b c:Bool} {m mz:ByteArray} {d:Nat} (hx:enc x=.agg #[.bool b,.string m]) (hz:enc z=.agg #[.bool c,.string mz]) (e:z=x / (d:Int)) (h1:m.size≤100000) (h2:(mag d).size≤100000) (h0:d≠0) (w:World) (hE:Env w) :
  Calls Tryz.prog 133 #[.agg #[.bool b,.string m],.agg #[.bool false,.string (mag d)]] w (RetB w (.agg #[.bool c,.string mz])):=by
 have KK:=Lib.hid (Kc.start w #[.bool b,.string m] #[.bool false,.string (mag d)] #[.bool false,.string ⟨#[]⟩] 23 23 23)
 have hlt:=hE.lt
 have hE0:=hE.next KK.out.bel
 have g0:=hE0.o0
 have g1:=hE0.o1
 clear hE hE0
 by_cases hden:d=1
 · subst hden
   have e2:z=x:=by rw [e];simp
   rw [e2,hx] at hz
   injection hz with hz
   have hc:b=c∧m=mz:=by simpa using hz
   obtain ⟨rfl,rfl⟩:=hc
   rw [mag_one]
   rw [mag_one] at KK g0 g1
   obtain ⟨p0,p1,f0,f1⟩:=blk_cells KK.out.k3
   clear hx hz h2 e e2
   go_enter Tryz.func133,Tryz.ntmps133
   go_wp2
   exact bodyPost_ret (v:=.agg #[.bool b,.string m]) (by simp [results,Tryz.results133,go_sem,p0,p1]) rfl ⟨rfl,(Kc.start w _ _ _ _ _ _).bel⟩
 · have hk1:=toList_ne (mag_no_one hden)
   obtain ⟨br,mr,hr⟩:=enc_form (x%(d:Int))
   have HD:=Lib.hid (fun V=>divMod_f hx (show enc (d:Int)=.agg #[.bool false,.string (mag d)] from enc_mag d) (by omega) (by omega) (by omega) hz hr e rfl V)
   generalize mag d=k at *
   clear hx hz hden h1 h2 e hr h0
   go_enter Tryz.func133,Tryz.ntmps133
   go_wp2_with fail
   refine (HD.out _).mono ?_
   rintro e w1 ⟨rfl,hb1⟩
   have K1:=Lib.hid (KK.out.next hb1)
   have K2:=Lib.hid (fun o1 o2=>K1.out.next (below_two w1 o1 o2))
   have p0:=fun o1 o2=>(blk_cells (K2.out o1 o2).k3).1
   have p1:=fun o1 o2=>(blk_cells (K2.out o1 o2).k3).2.1
   have f0:=fun o1 o2=>(blk_cells (K2.out o1 o2).k3).2.2.1
   have f1:=fun o1 o2=>(blk_cells (K2.out o1 o2).k3).2.2.2
   clear hb1 g0 g1
   go_wp2
   exact bodyPost_ret (v:=.agg #[.bool c,.string mz]) (by simp [results,Tryz.results133,go_sem,p0,p1]) rfl ⟨rfl,below_set2 (K2.out _ _).bel (by omega) _ _⟩
end Go.Proofs.YtpnokfgplnmjpaaGreatDoor


namespace Go.Proofs.YtpnokfgplnmjpaaGreatDoor
open Go.RowKit

def val10 (l:List UInt8):Nat:=l.foldl (fun a b=>a*10+(b.toNat-48)) 0

def digit10 (b:UInt8):Prop:=48≤b.toNat∧b.toNat≤57

theorem val10_snoc (l:List UInt8) (b:UInt8):val10 (l++[b])=val10 l*10+(b.toNat-48):=by simp [val10]

theorem fold10 (l:List UInt8):∀ a:Nat,l.foldl (fun a b=>a*10+(b.toNat-48)) a=a*10^l.length+val10 l:=by
 induction l with
 | nil=>intro a;simp [val10]
 | cons b l ih =>
   intro a
   have e:val10 (b :: l)=(b.toNat-48)*10^l.length+val10 l:=by
    show l.foldl _ (0*10+(b.toNat-48))=_
    rw [ih,Nat.zero_mul,Nat.zero_add]
   rw [e,List.foldl_cons,ih,List.length_cons,Nat.pow_succ,Nat.add_mul,Nat.mul_assoc,Nat.mul_comm 10,Nat.add_assoc]

theorem val10_cons (b:UInt8) (l:List UInt8):val10 (b :: l)=(b.toNat-48)*10^l.length+val10 l:=by
 show l.foldl _ (0*10+(b.toNat-48))=_
 rw [fold10,Nat.zero_mul,Nat.zero_add]

theorem val10_lt (l:List UInt8) (h:∀ b∈l,digit10 b):val10 l<10^l.length:=by
 induction l with
 | nil=>simp [val10]
 | cons b l ih =>
   have h1:=ih (fun c hc=>h c (by simp [hc]))
   have h2:=(h b (by simp)).2
   rw [val10_cons,List.length_cons,Nat.pow_succ]
   have h3:(b.toNat-48)*10^l.length≤9*10^l.length:=Nat.mul_le_mul_right _ (by omega)
   omega

def gF (V c k j:Nat):Nat:=if j<k then D B64 (V*G19+c) j else D B64 V j

end Go.Proofs.YtpnokfgplnmjpaaGreatDoor


namespace Go.Proofs.YtpnokfgplnmjpaaGreatDoor
open Go.RowKit

end Go.Proofs.YtpnokfgplnmjpaaGreatDoor


namespace Go.Proofs.YtpnokfgplnmjpaaGreatDoor
open Go.RowKit

theorem cat_one (x:UInt8) (l:List UInt8):(⟨#[x]⟩++⟨l.toArray⟩:ByteArray)=⟨(x :: l).toArray⟩:=by
 apply ByteArray.ext
 simp

structure P3 (w:World) (T:TypeId) (ba bt bx:Nat) (a0 a1 t0 t1 x0 x1:Value) (wr:World):Prop where
 ka:wr.heap[ba]?=some (.cells #[a0,a1] T (0,0))
 kt:wr.heap[bt]?=some (.cells #[t0,t1] T (0,0))
 kx:wr.heap[bx]?=some (.cells #[x0,x1] T (0,0))
 la:w.heap.size≤ba
 lt:ba<bt
 lx:bt<bx
 sz:bx<wr.heap.size
 bel:Below w.heap.size w wr

theorem P3.next {w:World} {T:TypeId} {ba bt bx:Nat} {a0 a1 t0 t1 x0 x1:Value} {wr w2:World} (h:P3 w T ba bt bx a0 a1 t0 t1 x0 x1 wr) (hb:Below wr.heap.size wr w2):P3 w T ba bt bx a0 a1 t0 t1 x0 x1 w2:=by
 have h1:=h.la;have h2:=h.lt;have h3:=h.lx;have h4:=h.sz;have h5:=hb.size
 exact ⟨(hb.block _ (by omega)).trans h.ka,(hb.block _ (by omega)).trans h.kt,(hb.block _ (by omega)).trans h.kx,h1,h2,h3,by omega,h.bel.trans (hb.mono (by omega))⟩

theorem digits_pow {X K:Nat} (h:X<256^K):Lib.nDigits X≤3*K+1:=by
 have h2:256^K≤(10^3)^K:=Nat.pow_le_pow_left (by decide) K
 rw [←Nat.pow_mul] at h2
 refine nDigits_le (3*K) X (Nat.lt_of_lt_of_le (Nat.lt_of_lt_of_le h h2) (Nat.pow_le_pow_right (by decide) (by omega)))

theorem digits_few {X:Nat} {m:ByteArray} (hm:m=mag X) (hs:m.size≤1000):Lib.nDigits X≤3001:=by
 have h1:X<256^m.size:=by rw [hm];exact lt_of_mag
 have:=digits_pow h1
 omega

end Go.Proofs.YtpnokfgplnmjpaaGreatDoor


namespace Go.Proofs.YtpnokfgplnmjpaaGreatDoor
open Go.RowKit

theorem digit_byte {r:Nat} (h:r<10):digit10 (UInt8.ofNat (48+r))∧(UInt8.ofNat (48+r)).toNat-48=r:=by
 have e:(UInt8.ofNat (48+r)).toNat=48+r:=by simp;omega
 unfold digit10
 rw [e]
 omega

theorem dec_digits (X:Nat):(∀ b∈Lib.decDigits X,digit10 b)∧val10 (Lib.decDigits X)=X:=by
 induction X using Nat.strongRecOn with
 | _ X ih =>
   by_cases h:X<10
   · rw [Lib.decDigits,dif_pos h]
     refine ⟨fun b hb=>?_,?_⟩
     · obtain rfl:b=UInt8.ofNat (48+X):=by simpa using hb
       exact (digit_byte h).1
     · have:=(digit_byte h).2
       rw [val10_cons]
       simp only [val10,List.foldl_nil,List.length_nil,Nat.pow_zero,Nat.mul_one,Nat.add_zero]
       exact this
   · obtain ⟨h1,h2⟩:=ih (X / 10) (by omega)
     have hr:X%10<10:=Nat.mod_lt _ (by omega)
     rw [Lib.decDigits,dif_neg h]
     refine ⟨fun b hb=>?_,?_⟩
     · rcases List.mem_append.1 hb with hb | hb
       · exact h1 b hb
       · obtain rfl:b=UInt8.ofNat (48+X%10):=by simpa using hb
         exact (digit_byte hr).1
     · rw [val10_snoc,h2,(digit_byte hr).2]
       omega

theorem dec_ne (X:Nat):Lib.decDigits X≠[]:=by
 intro h
 have h1:=Lib.decDigits_length X
 rw [h] at h1
 have:=Lib.nDigits_pos X
 simp at h1
 omega

theorem dec_first (X:Nat):(Lib.decDigits X).head?≠some 45:=by
 intro e
 have h1:(45:UInt8)∈Lib.decDigits X:=List.mem_of_mem_head? e
 have h2:=((dec_digits X).1 _ h1).1
 have:(45:UInt8).toNat=45:=rfl
 omega

end Go.Proofs.YtpnokfgplnmjpaaGreatDoor


namespace Go.Proofs.YtpnokfgplnmjpaaGreatDoor
open Go.RowKit
attribute [local go_sem ↓] Go.wp_at_zero Go.wp_at_succ

structure Bq (g:Nat) (cs:Array Value) (T:TypeId) (wx:World):Prop where
 k:wx.heap[g]?=some (.cells cs T (0,0))
 lt:g<wx.heap.size
theorem Bq.new (w:World) (cs:Array Value) (T:TypeId):Bq w.heap.size cs T (w.alloc (.cells cs T)):=⟨heap_one _ _,by simp⟩
theorem Bq.next {g:Nat} {cs:Array Value} {T:TypeId} {w1 w2:World} (h:Bq g cs T w1) (hb:Below w1.heap.size w1 w2):Bq g cs T w2:=⟨(hb.block _ h.lt).trans h.k,Nat.lt_of_lt_of_le h.lt hb.size⟩
theorem Bq.drew {g:Nat} {cs:Array Value} {T:TypeId} {w1:World} (h:Bq g cs T w1):Bq g cs T w1.drew:=h.next (Below.refl _ _).drew

theorem qoth4 {W:World} {g k:Nat} (hne:k≠g) (x y z u:Value):((((W.setCell ⟨g,0,none⟩ x).setCell ⟨g,1,none⟩ y).setCell ⟨g,2,none⟩ z).setCell ⟨g,3,none⟩ u).heap[k]?=W.heap[k]? :=
 (Below.heap_setCell _ ⟨g,3,none⟩ u k hne).trans ((Below.heap_setCell _ ⟨g,2,none⟩ z k hne).trans ((Below.heap_setCell _ ⟨g,1,none⟩ y k hne).trans (Below.heap_setCell _ ⟨g,0,none⟩ x k hne)))
theorem qset4 {W:World} {g:Nat} {T:TypeId} {x0 x1 x2 x3:Value} (h:W.heap[g]?=some (.cells #[x0,x1,x2,x3] T (0,0))) (x y z u:Value):((((W.setCell ⟨g,0,none⟩ x).setCell ⟨g,1,none⟩ y).setCell ⟨g,2,none⟩ z).setCell ⟨g,3,none⟩ u).heap[g]?=some (.cells #[x,y,z,u] T (0,0)):=by
 simp [World.setCell,Array.getElem?_modify,h]
theorem qsz4 {W:World} {g:Nat} (x y z u:Value):((((W.setCell ⟨g,0,none⟩ x).setCell ⟨g,1,none⟩ y).setCell ⟨g,2,none⟩ z).setCell ⟨g,3,none⟩ u).heap.size=W.heap.size:=by simp [World.setCell]
theorem Kc.setR {w w1:World} {c1 c2:Array Value} {T1 T2 T3:TypeId} {x0 x1 x2 x3:Value} (h:Kc w c1 c2 #[x0,x1,x2,x3] T1 T2 T3 w1) (x y z u:Value) :
  Kc w c1 c2 #[x,y,z,u] T1 T2 T3 ((((w1.setCell ⟨w.heap.size+1+1,0,none⟩ x).setCell ⟨w.heap.size+1+1,1,none⟩ y).setCell ⟨w.heap.size+1+1,2,none⟩ z).setCell ⟨w.heap.size+1+1,3,none⟩ u) :=
 ⟨(qoth4 (by omega) x y z u).trans h.k1,(qoth4 (by omega) x y z u).trans h.k2,qset4 h.k3 x y z u,by rw [qsz4];exact h.sz,below_set4 h.bel (by omega) _ _ _ _⟩
theorem Bq.set4 {g g':Nat} {cs:Array Value} {T:TypeId} {W:World} (h:Bq g cs T W) (hne:g≠g') (x y z u:Value):Bq g cs T ((((W.setCell ⟨g',0,none⟩ x).setCell ⟨g',1,none⟩ y).setCell ⟨g',2,none⟩ z).setCell ⟨g',3,none⟩ u) :=
 ⟨(qoth4 hne x y z u).trans h.k,by rw [qsz4];exact h.lt⟩

set_option maxHeartbeats 8000000 in
set_option maxRecDepth 100000 in
theorem make_pos {x y:Int} {b1 b2 b3:Bool} {m1 m2 m3 k3:ByteArray} (hx:enc x=.agg #[.bool b1,.string m1]) (hy:enc y=.agg #[.bool b2,.string m2]) (hq:Rq (Rat.divInt x y) b3 m3 k3) (h0:0<y) (s1:m1.size≤100000) (s2:m2.size≤100000) (w:World) (hE:Env w) :
  Calls Tryz.prog 114 #[.agg #[.bool b1,.string m1],.agg #[.bool b2,.string m2]] w (RetB w (.tuple #[.agg #[.bool b3,.string m3,.bool false,.string k3],.int .i64 0])):=by
 obtain ⟨d,rfl⟩:∃ d:Nat,y=(d:Int):=⟨y.natAbs,by omega⟩
 have hd0:0<d:=by omega
 have hne1:¬(w.heap.size=w.heap.size+1+1):=by omega
 have hne2:¬(w.heap.size+1+1=w.heap.size):=by omega
 have hne3:¬(w.heap.size+1=w.heap.size+1+1):=by omega
 have hne4:¬(w.heap.size+1+1=w.heap.size+1):=by omega
 have hy2:=hy
 rw [enc_mag d] at hy2
 have hbm:false=b2∧mag d=m2:=by injection hy2 with h;simpa using h
 obtain ⟨rfl,rfl⟩:=hbm
 have hsg:Int.sign (d:Int)=1:=Int.sign_eq_one_of_pos (by omega)
 have HSG:=Lib.hid (fun V=>Sign_f hy V)
 rw [hsg] at HSG
 have HE:=Lib.hid (fun V (h:Below w.heap.size w V)=>hE.next h)
 obtain ⟨G,hG⟩:∃ G,Nat.gcd x.natAbs d=G:=⟨_,rfl⟩
 have hG0:0<G:=hG ▸ Nat.gcd_pos_of_pos_right _ hd0
 obtain ⟨bg,mg,hg⟩:=enc_form (G:Int)
 have hg2:=hg
 rw [enc_mag G] at hg2
 have hbg:false=bg∧mag G=mg:=by injection hg2 with h;simpa using h
 obtain ⟨rfl,rfl⟩:=hbg
 have sG:(mag G).size≤100000:=by
  have h1:nd G≤nd d:=nd_mono (hG ▸ Nat.gcd_le_right _ hd0)
  exact Nat.le_trans h1 s2
 obtain ⟨e1,e2⟩:=divInt_parts x (d:Int) (by omega)
 have HCO:=Lib.hid (fun V (hV:Env V)=>common_f (d:=d) hx (c:=false) (mg:=mag G) (by rw [hG];exact hg) s1 s2 V hV)
 have HQ1:=Lib.hid (fun V (hV:Env V)=>quotient_f (d:=G) hx (c:=b3) (mz:=m3) (z:=x / (G:Int)) (by rw [←hG];have h:=hq.num;rw [e1] at h;rw [hsg,Int.one_mul,Int.natAbs_natCast] at h;exact h) rfl s1 sG (by omega) V hV)
 have HQ2:=Lib.hid (fun V (hV:Env V)=>quotient_f (d:=G) (enc_mag d) (c:=false) (mz:=mag (d / G)) (z:=((d / G:Nat):Int)) (enc_mag _) (by rw [Int.natCast_ediv]) s2 sG (by omega) V hV)
 have hk3:k3=dm (d / G):=by rw [hq.den,e2,←hG];rw [Int.natAbs_natCast]
 have HCP:=Lib.hid (fun V (hV:Env V)=>coprime_f b3 m3 (d / G) V hV)
 rw [←hk3] at HCP
 clear hg hg2 hk3 e1 e2 sG hG hG0
 generalize mag (d / G)=kd at *
 generalize mag G=kg at *
 have KK:=Lib.hid (Kc.start w #[.bool b1,.string m1] #[.bool false,.string (mag d)] #[.bool false,.string ⟨#[]⟩,.bool false,.string ⟨#[]⟩] 23 23 25)
 clear hx hy hy2 hq hE h0 hsg
 generalize mag d=k2 at *
 go_enter Tryz.func114,Tryz.ntmps114
 go_wp2_with fail
 refine (HSG.out _).mono ?_
 rintro e w1 ⟨rfl,hb1⟩
 have K1:=Lib.hid (KK.out.next hb1)
 obtain ⟨x0,x1,_,_⟩:=blk_cells K1.out.k2
 clear hb1
 go_wp2_with fail
 refine (HSG.out _).mono ?_
 rintro e w2 ⟨rfl,hb2⟩
 have K2:=Lib.hid (K1.out.next hb2)
 clear hb2 x0 x1
 obtain ⟨a0,a1,_,_⟩:=blk_cells K2.out.k1
 obtain ⟨a2,a3,_,_⟩:=blk_cells K2.out.k2
 go_wp2_with fail
 refine (HCO.out _ (HE.out _ K2.out.bel)).mono ?_
 rintro e w3 ⟨rfl,hb3⟩
 have K3:=Lib.hid (K2.out.next hb3)
 have K4:=Lib.hid (K3.out.next (below_new w3 (.cells #[.bool false,.string kg] 23))).drew
 have B4:=Lib.hid (Bq.new w3 #[.bool false,.string kg] 23).drew
 obtain ⟨p0,p1,_,_⟩:=blk_cells K4.out.k1
 obtain ⟨p2,p3,_,_⟩:=blk_cells K4.out.k2
 obtain ⟨p4,p5,_,_⟩:=blk_cells B4.out.k
 have hne5:w3.heap.size≠w.heap.size+1+1:=by have:=K3.out.sz;omega
 clear hb3 a0 a1 a2 a3
 go_wp2_with fail
 go_region_held3 (fun w'=>w'.cell? ⟨w.heap.size,0,none⟩=some (.bool b1)∧w'.cell? ⟨w.heap.size,1,none⟩=some (.string m1)∧w'.cell? ⟨w.heap.size+1,0,none⟩=some (.bool false)∧w'.cell? ⟨w.heap.size+1,1,none⟩=some (.string k2)∧w'.cell? ⟨w3.heap.size,0,none⟩=some (.bool false)∧w'.cell? ⟨w3.heap.size,1,none⟩=some (.string kg))
  (first
   | exact ⟨v0,v1,v2,v3,v4,v5⟩
   | exact ⟨s0,s1,s2,s3,s4,s5⟩
   | exact ⟨r0,r1,r2,r3,r4,r5⟩
   | exact ⟨q0,q1,q2,q3,q4,q5⟩
   | exact ⟨p0,p1,p2,p3,p4,p5⟩
   | go_keep)
  (first
   | (go_at_call 133;(with_reducible refine (HQ1.out _ (HE.out _ K4.out.bel)).mono ?_);rintro e w5 ⟨rfl,hb5⟩;have K5:=Lib.hid (K4.out.next hb5);have B5:=Lib.hid (B4.out.next hb5);obtain ⟨q0,q1,_,_⟩:=blk_cells K5.out.k1;obtain ⟨q2,q3,_,_⟩:=blk_cells K5.out.k2;obtain ⟨q4,q5,_,_⟩:=blk_cells B5.out.k)
   | (go_at_call 133;(with_reducible refine (HQ2.out _ (HE.out _ K5.out.bel)).mono ?_);rintro e w6 ⟨rfl,hb6⟩;have K6:=Lib.hid (K5.out.next hb6);have B6:=Lib.hid (B5.out.next hb6);obtain ⟨r0,r1,_,_⟩:=blk_cells K6.out.k1;obtain ⟨r2,r3,_,_⟩:=blk_cells K6.out.k2;obtain ⟨r4,r5,_,_⟩:=blk_cells B6.out.k)
   | (go_at_call 129;(with_reducible refine (HCP.out _ (HE.out _ K6.out.bel)).mono ?_);rintro e w7 ⟨rfl,hb7⟩;have K7:=Lib.hid (K6.out.next hb7);have B7:=Lib.hid (B6.out.next hb7);obtain ⟨s0,s1,_,_⟩:=blk_cells K7.out.k1;obtain ⟨s2,s3,_,_⟩:=blk_cells K7.out.k2;obtain ⟨s4,s5,_,_⟩:=blk_cells B7.out.k;obtain ⟨t0,t1,t2,t3⟩:=blk4 K7.out.k3;obtain ⟨f0,f1,f2,f3⟩:=fro4 K7.out.k3;have K8:=Lib.hid (K7.out.setR (.bool b3) (.string m3) (.bool false) (.string k3));have B8:=Lib.hid (B7.out.set4 hne5 (.bool b3) (.string m3) (.bool false) (.string k3));obtain ⟨v0,v1,_,_⟩:=blk_cells K8.out.k1;obtain ⟨v2,v3,_,_⟩:=blk_cells K8.out.k2;obtain ⟨v4,v5,_,_⟩:=blk_cells B8.out.k))
 go_wp2
 exact bodyPost_ret (v:=.tuple #[.agg #[.bool b3,.string m3,.bool false,.string k3],.int .i64 0]) (by simp [results,Tryz.results114,go_sem,t0,t1,t2,t3]) rfl ⟨rfl,K8.out.bel⟩
end Go.Proofs.YtpnokfgplnmjpaaGreatDoor


namespace Go.Proofs.YtpnokfgplnmjpaaGreatDoor
open Go.RowKit
attribute [local go_sem ↓] Go.wp_at_zero Go.wp_at_succ

set_option maxHeartbeats 1000000 in
set_option maxRecDepth 100000 in
theorem ratSign_f {q:Rat} {b:Bool} {m k:ByteArray} (h:Rq q b m k) (w:World):Calls Tryz.prog 71 #[.agg #[.bool b,.string m,.bool false,.string k]] w (RetB w (.int .i64 q.num.sign)):=by
 have HS:=Lib.hid (fun V=>Sign_f h.num V)
 have HB:=Lib.hid (below_new w (.cells #[.bool b,.string m,.bool false,.string k] 25))
 generalize q.num.sign=s at *
 clear h
 go_enter Tryz.func71,Tryz.ntmps71
 go_wp2_with fail
 refine (HS.out _).mono ?_
 rintro e w1 ⟨rfl,hb1⟩
 have B1:=Lib.hid (below_step HB.out (Nat.le_refl _) hb1)
 clear hb1
 go_wp2
 go_ret
 exact ⟨rfl,B1.out⟩

theorem one_of {x:Int} {b:Bool} {m:ByteArray} (h:enc x=.agg #[.bool b,.string m]) (h1:x=1):b=false∧m=⟨#[1]⟩:=by
 obtain ⟨e1,e2⟩:=enc_parts h
 subst h1
 exact ⟨by rw [e1];rfl,by rw [e2];exact mag_one⟩
theorem not_one {x:Int} {b:Bool} {m:ByteArray} (h:enc x=.agg #[.bool b,.string m]) (h1:x≠1):b=true∨(b=false∧¬m.toList=[1]∧¬[1]=m.toList):=by
 obtain ⟨e1,e2⟩:=enc_parts h
 cases b
 · right
   have h2:¬x<0:=of_decide_eq_false e1.symm
   have h3:m≠⟨#[1]⟩:=by rw [e2];exact mag_no_one (by omega)
   have h4:=toList_ne (l:=[1]) h3
   exact ⟨rfl,h4,fun e=>h4 e.symm⟩
 · exact .inl rfl

set_option maxHeartbeats 2000000 in
set_option maxRecDepth 100000 in
theorem ratTimes_f {x y z:Int} {b1 b2 b3:Bool} {m1 m2 m3:ByteArray} (hx:enc x=.agg #[.bool b1,.string m1]) (hy:enc y=.agg #[.bool b2,.string m2]) (hz:enc z=.agg #[.bool b3,.string m3]) (e:z=x*y) (s1:m1.size≤100000) (s2:m2.size≤100000) (w:World) (hE:Env w) :
  Calls Tryz.prog 132 #[.agg #[.bool b1,.string m1],.agg #[.bool b2,.string m2]] w (RetB w (.agg #[.bool b3,.string m3])):=by
 have KK:=Lib.hid (Kc.start w #[.bool b1,.string m1] #[.bool b2,.string m2] #[.bool false,.string ⟨#[]⟩] 23 23 23)
 have hlt:=hE.lt
 have hE0:=hE.next KK.out.bel
 have g0:=hE0.o0
 have g1:=hE0.o1
 clear hE hE0
 by_cases hx1:x=1
 · obtain ⟨rfl,rfl⟩:=one_of hx hx1
   rw [e,hx1,Int.one_mul,hy] at hz
   have hc:b2=b3∧m2=m3:=by injection hz with hz;simpa using hz
   obtain ⟨rfl,rfl⟩:=hc
   obtain ⟨p0,p1,f0,f1⟩:=blk_cells KK.out.k3
   clear hx hy hz hx1 e
   go_enter Tryz.func132,Tryz.ntmps132
   go_wp2
   exact bodyPost_ret (v:=.agg #[.bool b2,.string m2]) (by simp [results,Tryz.results132,go_sem,p0,p1]) rfl ⟨rfl,(Kc.start w _ _ _ _ _ _).bel⟩
 · by_cases hy1:y=1
   · obtain ⟨rfl,rfl⟩:=one_of hy hy1
     rw [e,hy1,Int.mul_one,hx] at hz
     have hc:b1=b3∧m1=m3:=by injection hz with hz;simpa using hz
     obtain ⟨rfl,rfl⟩:=hc
     obtain ⟨p0,p1,f0,f1⟩:=blk_cells KK.out.k3
     have hno:=not_one hx hx1
     clear hx hy hz hx1 hy1 e
     rcases hno with rfl | ⟨rfl,hn1,hn2⟩
     all_goals
      go_enter Tryz.func132,Tryz.ntmps132
      go_wp2
      exact bodyPost_ret (v:=.agg #[.bool _,.string m1]) (by simp [results,Tryz.results132,go_sem,p0,p1]) rfl ⟨rfl,(Kc.start w _ _ _ _ _ _).bel⟩
   · have HM:=Lib.hid (fun V=>mul_f hx hy (by omega) (by omega) hz e V)
     have hno:=not_one hx hx1
     have hno2:=not_one hy hy1
     clear hx hy hz hx1 hy1 e
     rcases hno with rfl | ⟨rfl,hn1,hn2⟩<;>rcases hno2 with rfl | ⟨rfl,hn3,hn4⟩
     all_goals
      go_enter Tryz.func132,Tryz.ntmps132
      go_wp2_with fail
      refine (HM.out _).mono ?_
      rintro e w1 ⟨rfl,hb1⟩
      have K1:=Lib.hid (KK.out.next hb1)
      obtain ⟨p0,p1,f0,f1⟩:=blk_cells K1.out.k3
      clear hb1 g0 g1
      go_wp2
      exact bodyPost_ret (v:=.agg #[.bool b3,.string m3]) (by simp [results,Tryz.results132,go_sem,p0,p1]) rfl ⟨rfl,below_set2 K1.out.bel (by omega) _ _⟩

theorem canon_enc {x:Int} {b:Bool} {m:ByteArray} (h:enc x=.agg #[.bool b,.string m]):checkV b m=0:=by
 obtain ⟨e1,e2⟩:=enc_parts h
 unfold checkV
 rw [if_pos]
 unfold canonB
 split
 · rename_i h1
   have h2:=lead_enc h h1
   simpa using h2
 · rename_i h1
   have h2:x.natAbs=0:=mag_zero_iff.1 (by rw [←e2];omega)
   have h3:x=0:=by omega
   rw [e1,h3];rfl

set_option maxHeartbeats 4000000 in
set_option maxRecDepth 100000 in
theorem ratCheck_f {q:Rat} {b:Bool} {m k:ByteArray} (h:Rq q b m k) (s1:m.size≤100000) (s2:k.size≤100000) (w:World) (hE:Env w) :
  Calls Tryz.prog 69 #[.agg #[.bool b,.string m,.bool false,.string k]] w (RetB w (.int .i64 0)):=by
 have HC1:=Lib.hid (fun V=>check_any b m V)
 rw [canon_enc h.num] at HC1
 have hk:checkV false k=0:=by
  rw [h.den]
  unfold dm
  split
  · exact canon_enc (enc_mag 0)
  · exact canon_enc (enc_mag q.den)
 have HC2:=Lib.hid (fun V=>check_any false k V)
 rw [hk] at HC2
 have HE:=Lib.hid (fun V (hb:Below w.heap.size w V)=>hE.next hb)
 have KK:=Lib.hid (Bq.new w #[.bool b,.string m,.bool false,.string k] 25)
 have BB:=Lib.hid (below_new w (.cells #[.bool b,.string m,.bool false,.string k] 25))
 by_cases hden:q.den=1
 · obtain rfl:=h.den1 hden
   clear h hk hE hden
   go_enter Tryz.func69,Tryz.ntmps69
   go_wp2_with fail
   refine (HC1.out _).mono ?_
   rintro e w1 ⟨rfl,hb1⟩
   have K1:=Lib.hid (KK.out.next hb1)
   have B1:=Lib.hid (below_step BB.out (Nat.le_refl _) hb1)
   obtain ⟨p0,p1,p2,p3⟩:=blk4 K1.out.k
   clear hb1
   go_wp2_with fail
   refine (HC2.out _).mono ?_
   rintro e w2 ⟨rfl,hb2⟩
   have K2:=Lib.hid (K1.out.next hb2)
   have B2:=Lib.hid (below_step B1.out (Nat.le_refl _) hb2)
   obtain ⟨q0,q1,q2,q3⟩:=blk4 K2.out.k
   clear hb2 p0 p1 p2 p3
   go_wp2_with fail
   refine (isInteger_yes b m _).mono ?_
   rintro e w3 ⟨rfl,hb3⟩
   have B3:=Lib.hid (below_step B2.out (Nat.le_refl _) hb3)
   clear hb3
   go_wp2
   go_ret
   exact ⟨rfl,B3.out⟩
 · obtain rfl:=h.den2 hden
   have HNO:=Lib.hid (isInteger_no b m (mag q.den) (mag_no_nil q.den_nz))
   have hk1:=toList_ne (l:=[1]) (mag_no_one hden)
   have hg:Nat.gcd q.num.natAbs q.den=1:=q.reduced
   have HG:=Lib.hid (fun V (hV:Env V)=>gcd_f h.num (enc_mag q.den) (bg:=false) (mg:=⟨#[1]⟩) (by rw [Int.natAbs_natCast,hg,←mag_one];exact enc_mag 1) (by omega) (by omega) V hV.tab)
   generalize Go.Proofs.YtpnokfgplnmjpaaGreatDoor.mag q.den=k at *
   clear h hk hE hden hg
   go_enter Tryz.func69,Tryz.ntmps69
   go_wp2_with fail
   refine (HC1.out _).mono ?_
   rintro e w1 ⟨rfl,hb1⟩
   have K1:=Lib.hid (KK.out.next hb1)
   have B1:=Lib.hid (below_step BB.out (Nat.le_refl _) hb1)
   obtain ⟨p0,p1,p2,p3⟩:=blk4 K1.out.k
   clear hb1
   go_wp2_with fail
   refine (HC2.out _).mono ?_
   rintro e w2 ⟨rfl,hb2⟩
   have K2:=Lib.hid (K1.out.next hb2)
   have B2:=Lib.hid (below_step B1.out (Nat.le_refl _) hb2)
   obtain ⟨q0,q1,q2,q3⟩:=blk4 K2.out.k
   clear hb2 p0 p1 p2 p3
   go_wp2_with fail
   refine (HNO.out _).mono ?_
   rintro e w3 ⟨rfl,hb3⟩
   have K3:=Lib.hid (K2.out.next hb3).drew
   have B3:=Lib.hid (below_step B2.out (Nat.le_refl _) hb3).drew
   have E3:=Lib.hid (HE.out _ B3.out)
   obtain ⟨r0,r1,r2,r3⟩:=blk4 K3.out.k
   have g0:=E3.out.o0
   have g1:=E3.out.o1
   simp only [World.cell?_drew] at r0 r1 r2 r3 g0 g1
   clear hb3 q0 q1 q2 q3
   go_wp2_with fail
   go_region_held3 (fun w'=>w'.cell? ⟨w.heap.size,0,none⟩=some (.bool b)∧w'.cell? ⟨w.heap.size,1,none⟩=some (.string m)∧w'.cell? ⟨w.heap.size,2,none⟩=some (.bool false)∧w'.cell? ⟨w.heap.size,3,none⟩=some (.string k)∧w'.cell? ⟨0,0,none⟩=some (.bool false)∧w'.cell? ⟨0,1,none⟩=some (.string ⟨#[1]⟩))
    (first
     | exact ⟨s0,s1,s2,s3,E4.out.o0,E4.out.o1⟩
     | exact ⟨r0,r1,r2,r3,g0,g1⟩
     | go_keep)
    (first
     | (go_at_call 126;(with_reducible refine (HG.out _ E3.out).mono ?_);rintro e w4 ⟨rfl,hb4⟩;have K4:=Lib.hid (K3.out.next hb4);have B4:=Lib.hid (below_step B3.out (Nat.le_refl _) hb4);have E4:=Lib.hid (HE.out _ B4.out);obtain ⟨s0,s1,s2,s3⟩:=blk4 K4.out.k))
   go_wp2
   go_ret
   exact ⟨rfl,B4.out⟩
end Go.Proofs.YtpnokfgplnmjpaaGreatDoor


namespace Go.Proofs.YtpnokfgplnmjpaaGreatDoor
open Go.RowKit
attribute [local go_sem ↓] Go.wp_at_zero Go.wp_at_succ

structure Nu (g v l s:Nat) (wx:World):Prop where
 k:wx.heap[g]?=some (.cells #[.bool false,.string (mag v),.int .i64 (l:Int),.int .i64 (s:Int)] 221 (0,0))
 lt:g<wx.heap.size
theorem Nu.next {g v l s:Nat} {w1 w2:World} (h:Nu g v l s w1) (hb:Below w1.heap.size w1 w2):Nu g v l s w2:=⟨(hb.block _ h.lt).trans h.k,Nat.lt_of_lt_of_le h.lt hb.size⟩

set_option maxHeartbeats 2000000 in
set_option maxRecDepth 100000 in
theorem empty_all (g v l s:Nat) (r:Bool) (hr:r=decide (s=0)) (w:World) (h:Nu g v l s w) :
  Calls Tryz.prog 238 #[.pointer (some ⟨g,0,none⟩)] w (RetV w (.bool r)):=by
 obtain ⟨a0,a1,a2,a3⟩:=blk4 h.k
 have hs:((s:Int)==0)=r:=by
  rw [hr]
  by_cases h0:s=0
  · subst h0;rfl
  · rw [decide_eq_false h0];simp;omega
 clear hr h
 go_enter Tryz.func238,Tryz.ntmps238
 go_wp2
 go_ret
 exact ⟨rfl,rfl⟩

set_option maxHeartbeats 4000000 in
set_option maxRecDepth 100000 in
theorem total_all (g v l s:Nat) (hl:l≤1000000000000000000) (hs:s≤1000000000000000000) (hv:(mag v).size≤10000) (w:World) (h:Nu g v l s w) :
  Calls Tryz.prog 239 #[.pointer (some ⟨g,0,none⟩)] w (RetB w (.agg #[.bool false,.string (mag (v*s+l))])):=by
 have e8:(mag s).size≤8:=mag_size_le (by omega)
 have e9:(mag l).size≤8:=mag_size_le (by omega)
 have hvs:(mag (v*s)).size≤10008:=Nat.le_trans (nd_mul v s) (by unfold nd;omega)
 have HF1:=Lib.hid (fun V=>fromInt_any (s:Int) (by omega) (by omega) V)
 have HF2:=Lib.hid (fun V=>fromInt_any (l:Int) (by omega) (by omega) V)
 have HM:=Lib.hid (fun V=>mul_f (z:=((v*s:Nat):Int)) (enc_mag v) (enc_mag s) (by omega) (by omega) (enc_mag _) (by rw [Int.natCast_mul]) V)
 have HA:=Lib.hid (fun V=>add_f (z:=((v*s+l:Nat):Int)) (enc_mag (v*s)) (enc_mag l) (by omega) (by omega) (enc_mag _) (by rw [Int.natCast_add]) V)
 have HN:=Lib.hid ((h.next (below_new w (.cells #[.bool false,.string ⟨#[]⟩] 23))).next (Below.refl _ _).drew)
 have KR:=Lib.hid (Bq.new w #[.bool false,.string ⟨#[]⟩] 23).drew
 have BB:=Lib.hid (below_new w (.cells #[.bool false,.string ⟨#[]⟩] 23)).drew
 have hlt:=h.lt
 obtain ⟨a0,a1,a2,a3⟩:=blk4 HN.out.k
 have HE1:=Lib.hid (enc_mag s)
 have HE2:=Lib.hid (enc_mag l)
 generalize mag (v*s+l)=mr at *
 generalize mag (v*s)=mvs at *
 clear h hl hs hv e8 e9 hvs
 go_enter Tryz.func239,Tryz.ntmps239
 go_wp2_with fail
 go_region_held3 (fun w'=>w'.cell? ⟨g,0,none⟩=some (.bool false)∧w'.cell? ⟨g,1,none⟩=some (.string (mag v))∧w'.cell? ⟨g,2,none⟩=some (.int .i64 (l:Int))∧w'.cell? ⟨g,3,none⟩=some (.int .i64 (s:Int)))
  (first
   | exact ⟨a0,a1,a2,a3⟩
   | go_keep)
  (first
   | (go_at_call 99;(with_reducible refine (HF1.out _).mono ?_);rintro e w1 ⟨rfl,hb9⟩;rw [HE1.out];have HN:=Lib.hid (HN.out.next hb9);have KR:=Lib.hid (KR.out.next hb9);have BB:=Lib.hid (below_step BB.out (Nat.le_refl _) hb9);obtain ⟨a0,a1,a2,a3⟩:=blk4 HN.out.k;clear hb9)
   | (go_at_call 95;(with_reducible refine (HM.out _).mono ?_);rintro e w2 ⟨rfl,hb9⟩;have HN:=Lib.hid (HN.out.next hb9);have KR:=Lib.hid (KR.out.next hb9);have BB:=Lib.hid (below_step BB.out (Nat.le_refl _) hb9);obtain ⟨a0,a1,a2,a3⟩:=blk4 HN.out.k;clear hb9)
   | (go_at_call 99;(with_reducible refine (HF2.out _).mono ?_);rintro e w3 ⟨rfl,hb9⟩;rw [HE2.out];have HN:=Lib.hid (HN.out.next hb9);have KR:=Lib.hid (KR.out.next hb9);have BB:=Lib.hid (below_step BB.out (Nat.le_refl _) hb9);obtain ⟨a0,a1,a2,a3⟩:=blk4 HN.out.k;clear hb9)
   | (go_at_call 101;(with_reducible refine (HA.out _).mono ?_);rintro e w4 ⟨rfl,hb9⟩;have HN:=Lib.hid (HN.out.next hb9);have KR:=Lib.hid (KR.out.next hb9);have BB:=Lib.hid (below_step BB.out (Nat.le_refl _) hb9);obtain ⟨a0,a1,a2,a3⟩:=blk4 HN.out.k;obtain ⟨p0,p1,f0,f1⟩:=blk_cells KR.out.k;have hne:¬(g=w.heap.size):=(by omega);have hne2:¬(w.heap.size=g):=(by omega);clear hb9))
 go_wp2
 exact bodyPost_ret (v:=.agg #[.bool false,.string mr]) (by simp [results,Tryz.results239,go_sem,p0,p1]) rfl ⟨rfl,below_set2 BB.out (Nat.le_refl _) _ _⟩
end Go.Proofs.YtpnokfgplnmjpaaGreatDoor


namespace Go.Proofs.YtpnokfgplnmjpaaGreatDoor
open Go.RowKit
attribute [local go_sem ↓] Go.wp_at_zero Go.wp_at_succ

def RetAd (w:World) (g v l s:Nat) (e:Ending) (w':World):Prop:=e=.returned (.tuple #[])∧Nu g v l s w'∧(∀ k,k≠g→k<w.heap.size→w'.heap[k]?=w.heap[k]?)∧w.heap.size≤w'.heap.size∧Below g w w'

theorem nu_set {W:World} {g v l s:Nat} (h:Nu g v l s W) (l' s':Nat) :
  (Nu g v l' s' ((W.setCell ⟨g,2,none⟩ (.int .i64 (l':Int))).setCell ⟨g,3,none⟩ (.int .i64 (s':Int)))∧(∀ k,k≠g→k<W.heap.size→((W.setCell ⟨g,2,none⟩ (.int .i64 (l':Int))).setCell ⟨g,3,none⟩ (.int .i64 (s':Int))).heap[k]?=W.heap[k]?)∧W.heap.size≤((W.setCell ⟨g,2,none⟩ (.int .i64 (l':Int))).setCell ⟨g,3,none⟩ (.int .i64 (s':Int))).heap.size∧Below g W ((W.setCell ⟨g,2,none⟩ (.int .i64 (l':Int))).setCell ⟨g,3,none⟩ (.int .i64 (s':Int)))) ∧
  (Nu g v l' s' ((W.setCell ⟨g,3,none⟩ (.int .i64 (s':Int))).setCell ⟨g,2,none⟩ (.int .i64 (l':Int)))∧(∀ k,k≠g→k<W.heap.size→((W.setCell ⟨g,3,none⟩ (.int .i64 (s':Int))).setCell ⟨g,2,none⟩ (.int .i64 (l':Int))).heap[k]?=W.heap[k]?)∧W.heap.size≤((W.setCell ⟨g,3,none⟩ (.int .i64 (s':Int))).setCell ⟨g,2,none⟩ (.int .i64 (l':Int))).heap.size∧Below g W ((W.setCell ⟨g,3,none⟩ (.int .i64 (s':Int))).setCell ⟨g,2,none⟩ (.int .i64 (l':Int)))):=by
 have hk:=h.k
 have hl:=h.lt
 refine ⟨⟨⟨by simp [World.setCell,Array.getElem?_modify,hk],by simpa [World.setCell] using hl⟩,fun k hne _=>(Below.heap_setCell _ ⟨g,3,none⟩ _ k hne).trans (Below.heap_setCell _ ⟨g,2,none⟩ _ k hne),by simp [World.setCell],((Below.refl g W).setCell (Nat.le_refl _) _).setCell (Nat.le_refl _) _⟩,
  ⟨⟨by simp [World.setCell,Array.getElem?_modify,hk],by simpa [World.setCell] using hl⟩,fun k hne _=>(Below.heap_setCell _ ⟨g,2,none⟩ _ k hne).trans (Below.heap_setCell _ ⟨g,3,none⟩ _ k hne),by simp [World.setCell],((Below.refl g W).setCell (Nat.le_refl _) _).setCell (Nat.le_refl _) _⟩⟩

set_option maxHeartbeats 4000000 in
set_option maxRecDepth 100000 in
theorem add_small (g v l s d t:Nat) (hd:d≤9) (ht:(s=0∧t=1)∨(1≤s∧t=s)) (hs:s≤100000000000000000) (hl:l≤200000000000000000) (w:World) (h:Nu g v l s w) :
  Calls Tryz.prog 237 #[.pointer (some ⟨g,0,none⟩),.int .i64 (d:Int)] w (RetAd w g v (l*10+d) (t*10)):=by
 obtain ⟨a0,a1,a2,a3⟩:=blk4 h.k
 obtain ⟨f0,f1,f2,f3⟩:=fro4 h.k
 have HN:=Lib.hid (nu_set (W:=w) ⟨h.k,h.lt⟩ (l*10+d) (t*10))
 have e1:((s:Int)==1000000000000000000)=false:=by simp;omega
 have hv1:((l*10+d:Nat):Int)=(l:Int)*10+(d:Int):=by omega
 have hv2:((t*10:Nat):Int)=(t:Int)*10:=by omega
 rw [hv1,hv2] at HN
 have w1:IntKind.i64.wrap ((l:Int)*10)=(l:Int)*10:=IntWalk.i64_in _ (by omega)
 have w2:IntKind.i64.wrap ((l:Int)*10+(d:Int))=(l:Int)*10+(d:Int):=IntWalk.i64_in _ (by omega)
 have w3:IntKind.i64.wrap ((t:Int)*10)=(t:Int)*10:=IntWalk.i64_in _ (by omega)
 clear h hv1 hv2
 rcases ht with ⟨rfl,rfl⟩ | ⟨h1,rfl⟩
 · have hm:max (0:Int) 1=1:=by decide
   have hm2:max ((0:Nat):Int) 1=1:=by decide
   go_enter Tryz.func237,Tryz.ntmps237
   go_wp2_with fail
   go_region_law (fail)
   all_goals
    go_end0
    first | exact ⟨rfl,⟨HN.out.1.1.k,HN.out.1.1.lt⟩,HN.out.1.2.1,HN.out.1.2.2.1,HN.out.1.2.2.2.drew⟩ | exact ⟨rfl,⟨HN.out.2.1.k,HN.out.2.1.lt⟩,HN.out.2.2.1,HN.out.2.2.2.1,HN.out.2.2.2.2.drew⟩
 · have hm:max (t:Int) 1=(t:Int):=by omega
   go_enter Tryz.func237,Tryz.ntmps237
   go_wp2_with fail
   go_region_law (fail)
   all_goals
    go_end0
    first | exact ⟨rfl,⟨HN.out.1.1.k,HN.out.1.1.lt⟩,HN.out.1.2.1,HN.out.1.2.2.1,HN.out.1.2.2.2.drew⟩ | exact ⟨rfl,⟨HN.out.2.1.k,HN.out.2.1.lt⟩,HN.out.2.2.1,HN.out.2.2.2.1,HN.out.2.2.2.2.drew⟩
end Go.Proofs.YtpnokfgplnmjpaaGreatDoor


namespace Go.Proofs.YtpnokfgplnmjpaaGreatDoor
open Go.RowKit
attribute [local go_sem ↓] Go.wp_at_zero Go.wp_at_succ

set_option maxHeartbeats 4000000 in
set_option maxRecDepth 100000 in
theorem add_big (g v l d:Nat) (hd:d≤9) (hl:l≤1000000000000000000) (hv:(mag v).size≤10000) (w:World) (h:Nu g v l 1000000000000000000 w) :
  Calls Tryz.prog 237 #[.pointer (some ⟨g,0,none⟩),.int .i64 (d:Int)] w (RetAd w g (v*1000000000000000000+l) d 10):=by
 obtain ⟨a0,a1,a2,a3⟩:=blk4 h.k
 obtain ⟨f0,f1,f2,f3⟩:=fro4 h.k
 have HT:=Lib.hid (fun V (hV:Nu g v l 1000000000000000000 V)=>total_all g v l 1000000000000000000 hl (by omega) hv V hV)
 have HN:=Lib.hid h
 have HLT:=Lib.hid (Nat.le_of_lt h.lt)
 have w2:IntKind.i64.wrap (d:Int)=(d:Int):=IntWalk.i64_in _ (by omega)
 have e1:(((1000000000000000000:Nat):Int)==1000000000000000000)=true:=by decide
 generalize hmr:mag (v*1000000000000000000+l)=mr at HT
 have hmr:=Lib.hid hmr
 clear h hl hv
 go_enter Tryz.func237,Tryz.ntmps237
 go_wp2_with fail
 refine (HT.out _ HN.out).mono ?_
 rintro e w1 ⟨rfl,hb9⟩
 have HN:=Lib.hid (HN.out.next hb9)
 have BB:=Lib.hid hb9
 obtain ⟨a0,a1,a2,a3⟩:=blk4 HN.out.k
 obtain ⟨f0,f1,f2,f3⟩:=fro4 HN.out.k
 clear hb9
 go_wp2_with fail
 obtain ⟨W,hWW⟩:∃ W,W=(((w1.setCell ⟨g,0,none⟩ (.bool false)).setCell ⟨g,1,none⟩ (.string mr)).setCell ⟨g,2,none⟩ (.int .i64 0)).setCell ⟨g,3,none⟩ (.int .i64 1):=⟨_,rfl⟩
 rw [←hWW]
 have hk:=HN.out.k
 have hl:=HN.out.lt
 have NW:Nu g (v*1000000000000000000+l) 0 1 W:=by
  subst hWW
  exact ⟨by simp [World.setCell,Array.getElem?_modify,hk,hmr.out],by simpa [World.setCell] using hl⟩
 have OW:(∀ k,k≠g→k<w.heap.size→W.heap[k]?=w.heap[k]?)∧w.heap.size≤W.heap.size∧Below g w W:=by
  subst hWW
  refine ⟨fun k hne hlt=>?_,?_,((((BB.out.mono HLT.out).setCell (Nat.le_refl _) _).setCell (Nat.le_refl _) _).setCell (Nat.le_refl _) _).setCell (Nat.le_refl _) _⟩
  · exact (Below.heap_setCell _ ⟨g,3,none⟩ _ k hne).trans ((Below.heap_setCell _ ⟨g,2,none⟩ _ k hne).trans ((Below.heap_setCell _ ⟨g,1,none⟩ _ k hne).trans ((Below.heap_setCell _ ⟨g,0,none⟩ _ k hne).trans (BB.out.block _ hlt))))
  · have:=BB.out.size
    simpa [World.setCell] using this
 have OW:=Lib.hid OW
 clear hWW hk hl HN BB a0 a1 a2 a3 f0 f1 f2 f3
 obtain ⟨a0,a1,a2,a3⟩:=blk4 NW.k
 obtain ⟨f0,f1,f2,f3⟩:=fro4 NW.k
 have HN:=Lib.hid (nu_set (W:=W) ⟨NW.k,NW.lt⟩ d 10)
 have hm:max (1:Int) 1=1:=by decide
 have hm2:max ((1:Nat):Int) 1=1:=by decide
 have w4:IntKind.i64.wrap 0=0:=IntWalk.i64_in _ (by omega)
 have w5:IntKind.i64.wrap 10=10:=IntWalk.i64_in _ (by omega)
 clear NW
 go_wp2_with fail
 go_region_law (fail)
 all_goals
  go_end0
  try simp only [w4,w5,w2,Int.zero_add]
  first
   | exact ⟨rfl,⟨HN.out.1.1.k,HN.out.1.1.lt⟩,fun k a b=>(HN.out.1.2.1 k a (Nat.lt_of_lt_of_le b OW.out.2.1)).trans (OW.out.1 k a b),Nat.le_trans OW.out.2.1 HN.out.1.2.2.1,(OW.out.2.2.trans HN.out.1.2.2.2).drew⟩
   | exact ⟨rfl,⟨HN.out.2.1.k,HN.out.2.1.lt⟩,fun k a b=>(HN.out.2.2.1 k a (Nat.lt_of_lt_of_le b OW.out.2.1)).trans (OW.out.1 k a b),Nat.le_trans OW.out.2.1 HN.out.2.2.2.1,(OW.out.2.2.trans HN.out.2.2.2.2).drew⟩
   | trace_state
end Go.Proofs.YtpnokfgplnmjpaaGreatDoor


namespace Go.Proofs.YtpnokfgplnmjpaaGreatDoor

def Dgs (l:List UInt8):Prop:=l≠[]∧∀ b∈l,digit10 b

inductive Pq (neg:Bool) (l:List UInt8):Rat→Int→Prop
 | int (h:Dgs l):Pq neg l ((sgn neg (val10 l):Int):Rat) 0
 | frac (p r:List UInt8) (e:l=p++47 :: r) (hp:Dgs p) (hr:Dgs r) (h0:val10 r≠0):Pq neg l (Rat.divInt (sgn neg (val10 p)) (val10 r:Int)) 0
 | zero (p r:List UInt8) (e:l=p++47 :: r) (hp:Dgs p) (hr:Dgs r) (h0:val10 r=0):Pq neg l 0 6
 | bad (h1:¬Dgs l) (h2:∀ p r,l=p++47 :: r→Dgs p→¬Dgs r):Pq neg l 0 15

theorem digit_no_slash {b:UInt8} (h:digit10 b):b≠47:=by
 rintro rfl
 exact absurd h.1 (by decide)

theorem slash_one {p r p' r':List UInt8} (h:p++47 :: r=p'++47 :: r') (hp:∀ b∈p,digit10 b) (hp':∀ b∈p',digit10 b):p=p'∧r=r':=by
 induction p generalizing p' with
 | nil =>
   cases p' with
   | nil=>simpa using h
   | cons b t =>
     simp only [List.nil_append,List.cons_append,List.cons.injEq] at h
     exact absurd h.1.symm (digit_no_slash (hp' b (by simp)))
 | cons a s ih =>
   cases p' with
   | nil =>
     simp only [List.nil_append,List.cons_append,List.cons.injEq] at h
     exact absurd h.1 (digit_no_slash (hp a (by simp)))
   | cons b t =>
     simp only [List.cons_append,List.cons.injEq] at h
     obtain ⟨h1,h2⟩:=ih h.2 (fun x hx=>hp x (by simp [hx])) (fun x hx=>hp' x (by simp [hx]))
     exact ⟨by rw [h.1,h1],h2⟩

theorem no_slash {l p r:List UInt8} (h:∀ b∈l,digit10 b):l≠p++47 :: r:=fun e =>
 digit_no_slash (h 47 (by rw [e];simp)) rfl

theorem Pq.one {neg:Bool} {l:List UInt8} {q q':Rat} {e e':Int} (h:Pq neg l q e) (h':Pq neg l q' e'):q=q'∧e=e':=by
 cases h with
 | int h =>
   cases h' with
   | int _=>exact ⟨rfl,rfl⟩
   | frac p r e=>exact absurd e (no_slash h.2)
   | zero p r e=>exact absurd e (no_slash h.2)
   | bad h1 _=>exact absurd h h1
 | frac p r e hp hr h0 =>
   cases h' with
   | int h=>exact absurd e (no_slash h.2)
   | frac p' r' e' hp' hr' h0' =>
     obtain ⟨rfl,rfl⟩:=slash_one (e.symm.trans e') hp.2 hp'.2
     exact ⟨rfl,rfl⟩
   | zero p' r' e' hp' hr' h0' =>
     obtain ⟨rfl,rfl⟩:=slash_one (e.symm.trans e') hp.2 hp'.2
     exact absurd h0' h0
   | bad _ h2=>exact absurd hr (h2 p r e hp)
 | zero p r e hp hr h0 =>
   cases h' with
   | int h=>exact absurd e (no_slash h.2)
   | frac p' r' e' hp' hr' h0' =>
     obtain ⟨rfl,rfl⟩:=slash_one (e.symm.trans e') hp.2 hp'.2
     exact absurd h0 h0'
   | zero p' r' e' hp' hr' h0'=>exact ⟨rfl,rfl⟩
   | bad _ h2=>exact absurd hr (h2 p r e hp)
 | bad h1 h2 =>
   cases h' with
   | int h=>exact absurd h h1
   | frac p' r' e' hp' hr' h0'=>exact absurd hr' (h2 p' r' e' hp')
   | zero p' r' e' hp' hr' h0'=>exact absurd hr' (h2 p' r' e' hp')
   | bad _ _=>exact ⟨rfl,rfl⟩

inductive Seen:List UInt8→Bool→List UInt8→List UInt8→Prop
 | num {l:List UInt8} (h:∀ b∈l,digit10 b):Seen l false l []
 | den {p r:List UInt8} (hp:∀ b∈p,digit10 b) (hr:∀ b∈r,digit10 b):Seen (p++47 :: r) true p r

theorem seen_nil:Seen [] false [] []:=.num (fun b hb=>by simp at hb)
theorem Seen.digit_num {l p r:List UInt8} (h:Seen l false p r) {b:UInt8} (hb:digit10 b):Seen (l++[b]) false (p++[b]) []:=by
 cases h with
 | num h=>exact .num (fun x hx=>by rcases List.mem_append.1 hx with h1 | h1;exact h x h1;obtain rfl:x=b:=(by simpa using h1);exact hb)
theorem Seen.slash {l p r:List UInt8} (h:Seen l false p r):Seen (l++[47]) true p []:=by
 cases h with
 | num h=>exact .den h (fun b hb=>by simp at hb)
theorem Seen.digit_den {l p r:List UInt8} (h:Seen l true p r) {b:UInt8} (hb:digit10 b):Seen (l++[b]) true p (r++[b]):=by
 cases h with
 | den hp hr =>
   rw [List.append_assoc,List.cons_append]
   exact .den hp (fun x hx=>by rcases List.mem_append.1 hx with h1 | h1;exact hr x h1;obtain rfl:x=b:=(by simpa using h1);exact hb)

theorem Seen.stop {l p r:List UInt8} {s:Bool} (h:Seen l s p r) {b:UInt8} (hb:¬digit10 b) (hs:s=true∨b≠47) (t:List UInt8) (neg:Bool):Pq neg (l++b :: t) 0 15:=by
 refine .bad (fun hd=>hb (hd.2 b (by simp))) fun p' r' e hp hr=>?_
 cases h with
 | num h =>
   have hs:b≠47:=by simpa using hs
   -- the first byte that is no digit is b in one reading,the slash in the other
   have key:∀ (l p':List UInt8),l++b :: t=p'++47 :: r'→(∀ x∈l,digit10 x)→(∀ x∈p',digit10 x)→False:=by
    intro l
    induction l with
    | nil =>
      intro p' e hl hp'
      cases p' with
      | nil=>simp only [List.nil_append,List.cons.injEq] at e;exact hs e.1
      | cons c u=>simp only [List.nil_append,List.cons_append,List.cons.injEq] at e;exact hb (by rw [e.1];exact hp' c (by simp))
    | cons a u ih =>
      intro p' e hl hp'
      cases p' with
      | nil=>simp only [List.nil_append,List.cons_append,List.cons.injEq] at e;exact digit_no_slash (hl a (by simp)) e.1
      | cons c v =>
        simp only [List.cons_append,List.cons.injEq] at e
        exact ih v e.2 (fun x hx=>hl x (by simp [hx])) (fun x hx=>hp' x (by simp [hx]))
   exact key l p' e h hp.2
 | den hp2 hr2 =>
   rw [List.append_assoc,List.cons_append] at e
   obtain ⟨_,h2⟩:=slash_one e hp2 hp.2
   exact hb (hr.2 b (by rw [←h2];simp))

theorem Seen.empty {l p r:List UInt8} {s:Bool} (h:Seen l s p r) (he:p=[]∨(s=true∧r=[])) (neg:Bool):Pq neg l 0 15:=by
 cases h with
 | num h =>
   have hl:l=[]:=by simpa using he
   subst hl
   exact .bad (fun hd=>hd.1 rfl) fun p' r' e _ _=>by simp at e
 | den hp hr =>
   refine .bad (fun hd=>digit_no_slash (hd.2 47 (by simp)) rfl) fun p' r' e hp' hr'=>?_
   obtain ⟨rfl,rfl⟩:=slash_one e hp hp'.2
   rcases he with rfl | ⟨_,rfl⟩
   · exact hp'.1 rfl
   · exact hr'.1 rfl

theorem Seen.whole {l p r:List UInt8} (h:Seen l false p r) (hp:p≠[]) (neg:Bool):Pq neg l ((sgn neg (val10 p):Int):Rat) 0:=by
 cases h with
 | num h=>exact .int ⟨hp,h⟩
theorem Seen.parts {l p r:List UInt8} (h:Seen l true p r) (hp:p≠[]) (hr:r≠[]) (neg:Bool):(val10 r≠0∧Pq neg l (Rat.divInt (sgn neg (val10 p)) (val10 r:Int)) 0)∨(val10 r=0∧Pq neg l 0 6):=by
 cases h with
 | den h1 h2 =>
   by_cases h0:val10 r=0
   · exact .inr ⟨h0,.zero _ _ rfl ⟨hp,h1⟩ ⟨hr,h2⟩ h0⟩
   · exact .inl ⟨h0,.frac _ _ rfl ⟨hp,h1⟩ ⟨hr,h2⟩ h0⟩
theorem Seen.len {l p r:List UInt8} {s:Bool} (h:Seen l s p r):p.length≤l.length∧r.length≤l.length:=by
 cases h with
 | num h=>exact ⟨Nat.le_refl _,by simp⟩
 | den hp hr=>simp only [List.length_append,List.length_cons];omega

inductive Nq:Nat→Nat→Nat→Nat→Nat→Prop
 | none:Nq 0 0 0 0 0
 | some (j n V v l:Nat) (h1:1≤j) (h2:j≤18) (hn:j≤n) (hl:l<10^j) (hV:V=v*10^j+l) (hv:v<10^(n-j)):Nq n V v l (10^j)

theorem Nq.zero {n V v l:Nat} (h:Nq n V v l 0):n=0∧V=0∧v=0∧l=0:=by
 generalize hs:0=s at h
 cases h with
 | none=>exact ⟨rfl,rfl,rfl,rfl⟩
 | some j n V v l=>have:=Nat.pow_pos (n:=j) (show 0<10 by omega);omega
theorem Nq.empty {n V v l s:Nat} (h:Nq n V v l s):s=0↔n=0:=by
 cases h with
 | none=>simp
 | some j n V v l h1 h2 hn=>have:=Nat.pow_pos (n:=j) (show 0<10 by omega);omega
theorem pow10_18 {j:Nat} (h:j≤18):10^j≤1000000000000000000:=by
 have:10^j≤10^18:=Nat.pow_le_pow_right (by omega) h
 simpa using this
theorem Nq.total {n V v l s:Nat} (h:Nq n V v l s):v*s+l=V∧s≤1000000000000000000∧l≤1000000000000000000∧v<10^n:=by
 cases h with
 | none=>simp
 | some j n V v l h1 h2 hn hl hV hv =>
   have:=pow10_18 h2
   refine ⟨hV.symm,this,by omega,Nat.lt_of_lt_of_le hv (Nat.pow_le_pow_right (by omega) (by omega))⟩
theorem Nq.add {n V v l s d:Nat} (h:Nq n V v l s) (hd:d≤9) :
  (∃ t,((s=0∧t=1)∨(1≤s∧t=s))∧s≤100000000000000000∧l≤200000000000000000∧Nq (n+1) (V*10+d) v (l*10+d) (t*10)) ∨
  (s=1000000000000000000∧l≤1000000000000000000∧Nq (n+1) (V*10+d) (v*1000000000000000000+l) d 10):=by
 cases h with
 | none =>
   left
   refine ⟨1,.inl ⟨rfl,rfl⟩,by omega,by omega,?_⟩
   have:=Nq.some 1 1 (0*10+d) 0 (0*10+d) (by omega) (by omega) (by omega) (by omega) (by omega) (by decide)
   simpa using this
 | some j n V v l h1 h2 hn hl hV hv =>
   by_cases hj:j=18
   · subst hj
     right
     have e18:(10:Nat)^18=1000000000000000000:=by decide
     refine ⟨e18,by omega,?_⟩
     have hb:v*1000000000000000000+l<10^(n+1-1):=by
      have:v*10^18+l<10^(n-18)*10^18:=by
       have h3:(v+1)*10^18≤10^(n-18)*10^18:=Nat.mul_le_mul_right _ hv
       rw [Nat.add_mul] at h3
       omega
      rw [←Nat.pow_add,show n-18+18=n+1-1 by omega,e18] at this
      exact this
     have:=Nq.some 1 (n+1) (V*10+d) (v*1000000000000000000+l) d (by omega) (by omega) (by omega) (by omega) (by rw [hV,e18]) hb
     simpa using this
   · left
     have h17:10^j≤100000000000000000:=by
      have:10^j≤10^17:=Nat.pow_le_pow_right (by omega) (by omega)
      simpa using this
     have hp:=Nat.pow_pos (n:=j) (show 0<10 by omega)
     refine ⟨10^j,.inr ⟨by omega,rfl⟩,h17,by omega,?_⟩
     rw [←Nat.pow_succ]
     refine Nq.some (j+1) (n+1) _ v _ (by omega) (by omega) (by omega) (by rw [Nat.pow_succ];omega) ?_ (by rw [show n+1-(j+1)=n-j by omega];exact hv)
     rw [hV,Nat.pow_succ,Nat.add_mul,←Nat.mul_assoc]
     omega
end Go.Proofs.YtpnokfgplnmjpaaGreatDoor


namespace Go.Proofs.YtpnokfgplnmjpaaGreatDoor
open Go.RowKit
attribute [local go_sem ↓] Go.wp_at_zero Go.wp_at_succ

set_option maxHeartbeats 8000000 in
set_option maxRecDepth 100000 in
theorem make_neg {x y:Int} {b1 b2 b3:Bool} {m1 m2 m3 k3:ByteArray} (hx:enc x=.agg #[.bool b1,.string m1]) (hy:enc y=.agg #[.bool b2,.string m2]) (hq:Rq (Rat.divInt x y) b3 m3 k3) (h0:y<0) (s1:m1.size≤100000) (s2:m2.size≤100000) (w:World) (hE:Env w) :
  Calls Tryz.prog 114 #[.agg #[.bool b1,.string m1],.agg #[.bool b2,.string m2]] w (RetB w (.tuple #[.agg #[.bool b3,.string m3,.bool false,.string k3],.int .i64 0])):=by
 obtain ⟨d,rfl⟩:∃ d:Nat,y=-(d:Int):=⟨y.natAbs,by omega⟩
 have hd0:0<d:=by omega
 obtain ⟨bn,hbn⟩:∃ c,enc (-x)=.agg #[.bool c,.string m1]:=⟨_,enc_neg hx⟩
 have hm2:m2=mag d:=by rw [(enc_parts hy).2];congr 1;omega
 have hnd:enc (-(-(d:Int)))=.agg #[.bool false,.string (mag d)]:=by rw [Int.neg_neg];exact enc_mag d
 subst hm2
 have hsg:Int.sign (-(d:Int))=-1:=Int.sign_eq_neg_one_of_neg (by omega)
 have HSG:=Lib.hid (fun V=>Sign_f hy V)
 rw [hsg] at HSG
 have HN1:=Lib.hid (fun V=>negate_f hx hbn V)
 have HN2:=Lib.hid (fun V=>negate_f hy hnd V)
 have HE:=Lib.hid (fun V (h:Below w.heap.size w V)=>hE.next h)
 obtain ⟨G,hG⟩:∃ G,Nat.gcd (-x).natAbs d=G:=⟨_,rfl⟩
 have hG0:0<G:=hG ▸ Nat.gcd_pos_of_pos_right _ hd0
 obtain ⟨bg,mg,hg⟩:=enc_form (G:Int)
 have hg2:=hg
 rw [enc_mag G] at hg2
 have hbg:false=bg∧mag G=mg:=by injection hg2 with h;simpa using h
 obtain ⟨rfl,rfl⟩:=hbg
 have sG:(mag G).size≤100000:=by
  have h1:nd G≤nd d:=nd_mono (hG ▸ Nat.gcd_le_right _ hd0)
  exact Nat.le_trans h1 s2
 obtain ⟨e1,e2⟩:=divInt_parts x (-(d:Int)) (by omega)
 have HCO:=Lib.hid (fun V (hV:Env V)=>common_f (d:=d) hbn (c:=false) (mg:=mag G) (by rw [hG];exact hg) s1 s2 V hV)
 have HQ1:=Lib.hid (fun V (hV:Env V)=>quotient_f (d:=G) hbn (c:=b3) (mz:=m3) (z:=(-x) / (G:Int)) (by rw [←hG];have h:=hq.num;rw [e1] at h;rw [hsg,Int.natAbs_neg,Int.natAbs_natCast] at h;rw [Int.natAbs_neg,←Int.neg_one_mul];exact h) rfl s1 sG (by omega) V hV)
 have HQ2:=Lib.hid (fun V (hV:Env V)=>quotient_f (d:=G) (enc_mag d) (c:=false) (mz:=mag (d / G)) (z:=((d / G:Nat):Int)) (enc_mag _) (by rw [Int.natCast_ediv]) s2 sG (by omega) V hV)
 have hk3:k3=dm (d / G):=by rw [hq.den,e2,←hG];rw [Int.natAbs_neg,Int.natAbs_neg,Int.natAbs_natCast]
 have HCP:=Lib.hid (fun V (hV:Env V)=>coprime_f b3 m3 (d / G) V hV)
 rw [←hk3] at HCP
 clear hg hg2 hk3 e1 e2 sG hG hG0
 generalize mag (d / G)=kd at *
 generalize mag G=kg at *
 have KK:=Lib.hid (Kc.start w #[.bool b1,.string m1] #[.bool b2,.string (mag d)] #[.bool false,.string ⟨#[]⟩,.bool false,.string ⟨#[]⟩] 23 23 25)
 clear hx hy hq hE h0 hsg hbn hnd
 generalize mag d=k2 at *
 go_enter Tryz.func114,Tryz.ntmps114
 go_wp2_with fail
 refine (HSG.out _).mono ?_
 rintro e w1 ⟨rfl,hb1⟩
 have K1:=Lib.hid (KK.out.next hb1)
 obtain ⟨x0,x1,_,_⟩:=blk_cells K1.out.k2
 clear hb1
 go_wp2_with fail
 refine (HSG.out _).mono ?_
 rintro e w9 ⟨rfl,hb9⟩
 have K9:=Lib.hid (K1.out.next hb9).drew
 have hHeld:w9.drew.cell? ⟨w.heap.size,0,none⟩=some (.bool b1)∧w9.drew.cell? ⟨w.heap.size,1,none⟩=some (.string m1)∧w9.drew.cell? ⟨w.heap.size+1,0,none⟩=some (.bool b2)∧w9.drew.cell? ⟨w.heap.size+1,1,none⟩=some (.string k2):=⟨(blk_cells K9.out.k1).1,(blk_cells K9.out.k1).2.1,(blk_cells K9.out.k2).1,(blk_cells K9.out.k2).2.1⟩
 have HHELD:=Lib.hid hHeld
 clear hb9 x0 x1 hHeld
 go_wp2_with fail
 refine wp_region_late (S:=fun w'=>w'.cell? ⟨w.heap.size,0,none⟩=some (.bool b1)∧w'.cell? ⟨w.heap.size,1,none⟩=some (.string m1)∧w'.cell? ⟨w.heap.size+1,0,none⟩=some (.bool b2)∧w'.cell? ⟨w.heap.size+1,1,none⟩=some (.string k2)) (L:=[4,5]) (by kernel_rfl) ?_
 have hHeld:=HHELD.out
 refine wpLate_take (i:=0) (oi:=⟨some 14,_,_,_,_,_⟩) (v:=?_) rfl (by kernel_rfl) (by kernel_rfl) (by kernel_rfl) (by kernel_rfl) (by kernel_rfl) (fun _ _ _ h=>h) (Or.inl ⟨by rfl,?_⟩) hHeld ?_
 rotate_left
 · intro w hSw;(try dsimp only at hSw);(first | (go_simp;done) | (go_simp;with_reducible rfl))
 try simp only [Act.put,List.setIfInBounds_toArray,List.set_cons_zero,List.set_cons_succ]
 refine wpLate_take (i:=2) (oi:=⟨some 16,_,_,_,_,_⟩) (v:=?_) rfl (by kernel_rfl) (by kernel_rfl) (by kernel_rfl) (by kernel_rfl) (by kernel_rfl) (fun _ _ _ h=>h) (Or.inl ⟨by rfl,?_⟩) hHeld ?_
 rotate_left
 · intro w hSw;(try dsimp only at hSw);(first | (go_simp;done) | (go_simp;with_reducible rfl))
 try simp only [Act.put,List.setIfInBounds_toArray,List.set_cons_zero,List.set_cons_succ]
 refine wpLate_one (i:=1) (o:=⟨some 15,_,_,_,_,_⟩) (by kernel_rfl) rfl (fun K hK=>?_)
 go_simp
 (go_at_call 107;refine (HN1.out _).mono ?_;rintro e w10 ⟨rfl,hb10⟩;have K10:=Lib.hid (K9.out.next hb10))
 try go_wp2_with fail
 refine hK.out _ _ (Or.inr (fun _=>⟨(blk_cells K10.out.k1).1,(blk_cells K10.out.k1).2.1,(blk_cells K10.out.k2).1,(blk_cells K10.out.k2).2.1⟩)) ?_
 clear hK K
 try simp only [Act.put,List.setIfInBounds_toArray,List.set_cons_zero,List.set_cons_succ]
 refine wpLate_one (i:=3) (o:=⟨some 17,_,_,_,_,_⟩) (by kernel_rfl) rfl (fun K hK=>?_)
 go_simp
 (go_at_call 107;refine (HN2.out _).mono ?_;rintro e w11 ⟨rfl,hb11⟩;have K11:=Lib.hid (K10.out.next hb11);have K12:=Lib.hid (K11.out.set1 (.bool bn) (.string m1));have K2:=Lib.hid (K12.out.set2 (.bool false) (.string k2));obtain ⟨z0,z1,z2,z3⟩:=blk_cells K11.out.k1;obtain ⟨z4,z5,z6,z7⟩:=blk_cells K12.out.k2;obtain ⟨z8,z9,z10,z11⟩:=blk_cells K11.out.k2)
 try go_wp2_with fail
 refine hK.out _ _ (Or.inr (fun _=>⟨(blk_cells K11.out.k1).1,(blk_cells K11.out.k1).2.1,(blk_cells K11.out.k2).1,(blk_cells K11.out.k2).2.1⟩)) ?_
 clear hK K
 try simp only [Act.put,List.setIfInBounds_toArray,List.set_cons_zero,List.set_cons_succ]
 refine wpLate_one (i:=4) (o:=⟨none,_,_,_,_,_⟩) (by kernel_rfl) rfl (fun K hK=>?_)
 go_simp
 refine hK.out _ _ (Or.inl (by rfl)) ?_
 clear hK K
 try simp only [Act.put,List.setIfInBounds_toArray,List.set_cons_zero,List.set_cons_succ]
 refine wpLate_one (i:=5) (o:=⟨none,_,_,_,_,_⟩) (by kernel_rfl) rfl (fun K hK=>?_)
 go_simp
 refine hK.out _ _ (Or.inl (by rfl)) ?_
 clear hK K
 try simp only [Act.put,List.setIfInBounds_toArray,List.set_cons_zero,List.set_cons_succ]
 refine wpLate_done (by kernel_rfl) ?_ _
 obtain ⟨w2,hw2⟩:∃ W,W=((((w11.setCell ⟨w.heap.size,0,none⟩ (.bool bn)).setCell ⟨w.heap.size,1,none⟩ (.string m1)).setCell ⟨w.heap.size+1,0,none⟩ (.bool false)).setCell ⟨w.heap.size+1,1,none⟩ (.string k2)):=⟨_,rfl⟩
 rw [←hw2]
 rw [←hw2] at K2
 clear z0 z1 z2 z3 z4 z5 z6 z7 z8 z9 z10 z11 hb10 hb11 hHeld hw2
 obtain ⟨a0,a1,_,_⟩:=blk_cells K2.out.k1
 obtain ⟨a2,a3,_,_⟩:=blk_cells K2.out.k2
 go_wp2_with fail
 refine (HCO.out _ (HE.out _ K2.out.bel)).mono ?_
 rintro e w3 ⟨rfl,hb3⟩
 have K3:=Lib.hid (K2.out.next hb3)
 have K4:=Lib.hid (K3.out.next (below_new w3 (.cells #[.bool false,.string kg] 23))).drew
 have B4:=Lib.hid (Bq.new w3 #[.bool false,.string kg] 23).drew
 obtain ⟨p0,p1,_,_⟩:=blk_cells K4.out.k1
 obtain ⟨p2,p3,_,_⟩:=blk_cells K4.out.k2
 obtain ⟨p4,p5,_,_⟩:=blk_cells B4.out.k
 have hne5:w3.heap.size≠w.heap.size+1+1:=by have:=K3.out.sz;omega
 clear hb3 a0 a1 a2 a3
 go_wp2_with fail
 go_region_held3 (fun w'=>w'.cell? ⟨w.heap.size,0,none⟩=some (.bool bn)∧w'.cell? ⟨w.heap.size,1,none⟩=some (.string m1)∧w'.cell? ⟨w.heap.size+1,0,none⟩=some (.bool false)∧w'.cell? ⟨w.heap.size+1,1,none⟩=some (.string k2)∧w'.cell? ⟨w3.heap.size,0,none⟩=some (.bool false)∧w'.cell? ⟨w3.heap.size,1,none⟩=some (.string kg))
  (first
   | exact ⟨v0,v1,v2,v3,v4,v5⟩
   | exact ⟨s0,s1,s2,s3,s4,s5⟩
   | exact ⟨r0,r1,r2,r3,r4,r5⟩
   | exact ⟨q0,q1,q2,q3,q4,q5⟩
   | exact ⟨p0,p1,p2,p3,p4,p5⟩
   | go_keep)
  (first
   | (go_at_call 133;(with_reducible refine (HQ1.out _ (HE.out _ K4.out.bel)).mono ?_);rintro e w5 ⟨rfl,hb5⟩;have K5:=Lib.hid (K4.out.next hb5);have B5:=Lib.hid (B4.out.next hb5);obtain ⟨q0,q1,_,_⟩:=blk_cells K5.out.k1;obtain ⟨q2,q3,_,_⟩:=blk_cells K5.out.k2;obtain ⟨q4,q5,_,_⟩:=blk_cells B5.out.k)
   | (go_at_call 133;(with_reducible refine (HQ2.out _ (HE.out _ K5.out.bel)).mono ?_);rintro e w6 ⟨rfl,hb6⟩;have K6:=Lib.hid (K5.out.next hb6);have B6:=Lib.hid (B5.out.next hb6);obtain ⟨r0,r1,_,_⟩:=blk_cells K6.out.k1;obtain ⟨r2,r3,_,_⟩:=blk_cells K6.out.k2;obtain ⟨r4,r5,_,_⟩:=blk_cells B6.out.k)
   | (go_at_call 129;(with_reducible refine (HCP.out _ (HE.out _ K6.out.bel)).mono ?_);rintro e w7 ⟨rfl,hb7⟩;have K7:=Lib.hid (K6.out.next hb7);have B7:=Lib.hid (B6.out.next hb7);obtain ⟨s0,s1,_,_⟩:=blk_cells K7.out.k1;obtain ⟨s2,s3,_,_⟩:=blk_cells K7.out.k2;obtain ⟨s4,s5,_,_⟩:=blk_cells B7.out.k;obtain ⟨t0,t1,t2,t3⟩:=blk4 K7.out.k3;obtain ⟨f0,f1,f2,f3⟩:=fro4 K7.out.k3;have K8:=Lib.hid (K7.out.setR (.bool b3) (.string m3) (.bool false) (.string k3));have B8:=Lib.hid (B7.out.set4 hne5 (.bool b3) (.string m3) (.bool false) (.string k3));obtain ⟨v0,v1,_,_⟩:=blk_cells K8.out.k1;obtain ⟨v2,v3,_,_⟩:=blk_cells K8.out.k2;obtain ⟨v4,v5,_,_⟩:=blk_cells B8.out.k))
 go_wp2
 exact bodyPost_ret (v:=.tuple #[.agg #[.bool b3,.string m3,.bool false,.string k3],.int .i64 0]) (by simp [results,Tryz.results114,go_sem,t0,t1,t2,t3]) rfl ⟨rfl,K8.out.bel⟩

set_option maxHeartbeats 2000000 in
set_option maxRecDepth 100000 in
theorem make_zero (b1 b2:Bool) (m1:ByteArray) (hy:enc 0=.agg #[.bool b2,.string ⟨#[]⟩]) (w:World) :
  Calls Tryz.prog 114 #[.agg #[.bool b1,.string m1],.agg #[.bool b2,.string ⟨#[]⟩]] w (RetB w (.tuple #[.agg #[.bool false,.string ⟨#[]⟩,.bool false,.string ⟨#[]⟩],.int .i64 6])):=by
 have HSG:=Lib.hid (fun V=>Sign_f hy V)
 rw [show Int.sign 0=0 from rfl] at HSG
 have KK:=Lib.hid (Kc.start w #[.bool b1,.string m1] #[.bool b2,.string ⟨#[]⟩] #[.bool false,.string ⟨#[]⟩,.bool false,.string ⟨#[]⟩] 23 23 25)
 clear hy
 go_enter Tryz.func114,Tryz.ntmps114
 go_wp2_with fail
 refine (HSG.out _).mono ?_
 rintro e w1 ⟨rfl,hb1⟩
 have K1:=Lib.hid (KK.out.next hb1)
 obtain ⟨t0,t1,t2,t3⟩:=blk4 K1.out.k3
 obtain ⟨f0,f1,f2,f3⟩:=fro4 K1.out.k3
 clear hb1
 go_wp2
 exact bodyPost_ret (v:=.tuple #[.agg #[.bool false,.string ⟨#[]⟩,.bool false,.string ⟨#[]⟩],.int .i64 6]) (by simp [results,Tryz.results114,go_sem,t0,t1,t2,t3]) rfl ⟨rfl,by first | exact K1.out.bel | exact below_set4 K1.out.bel (by omega) _ _ _ _⟩

theorem make_f {x y:Int} {b1 b2 b3:Bool} {m1 m2 m3 k3:ByteArray} (hx:enc x=.agg #[.bool b1,.string m1]) (hy:enc y=.agg #[.bool b2,.string m2]) (hq:Rq (Rat.divInt x y) b3 m3 k3) (h0:y≠0) (s1:m1.size≤100000) (s2:m2.size≤100000) (w:World) (hE:Env w) :
  Calls Tryz.prog 114 #[.agg #[.bool b1,.string m1],.agg #[.bool b2,.string m2]] w (RetB w (.tuple #[.agg #[.bool b3,.string m3,.bool false,.string k3],.int .i64 0])):=by
 rcases Int.lt_or_lt_of_ne h0 with h | h
 · exact make_neg hx hy hq h s1 s2 w hE
 · exact make_pos hx hy hq h s1 s2 w hE
end Go.Proofs.YtpnokfgplnmjpaaGreatDoor


namespace Go.Proofs.YtpnokfgplnmjpaaGreatDoor
open Go.RowKit

theorem enc_nought:enc 0=.agg #[.bool false,.string ⟨#[]⟩]:=by
 unfold enc mag
 rw [show (0:Int).natAbs=0 from rfl,magL_zero]
 rfl

end Go.Proofs.YtpnokfgplnmjpaaGreatDoor


namespace Go.Proofs.YtpnokfgplnmjpaaGreatDoor
open Go.RowKit
attribute [local go_sem ↓] Go.wp_at_zero Go.wp_at_succ

theorem cmpZ_lt {x y:Int} (h:x<y):cmpZ x y=-1:=by unfold cmpZ;simp [h]
theorem cmpZ_gt {x y:Int} (h:y<x):cmpZ x y=1:=by unfold cmpZ;rw [if_neg (by omega),if_pos h]
theorem cmpZ_eq0 {x y:Int} (h:x=y):cmpZ x y=0:=by subst h;unfold cmpZ;simp

end Go.Proofs.YtpnokfgplnmjpaaGreatDoor


namespace Go.Proofs.YtpnokfgplnmjpaaGreatDoor
open Go.RowKit
attribute [local go_sem ↓] Go.wp_at_zero Go.wp_at_succ

section
variable {w w1 w2:World} {c1 c2 c3 c4:Array Value}
end

section
variable {w w1 w2:World} {g:Nat} {cs:Array Value}
end

theorem wpLate_two {P:Program} {ops:Array Oper} {Q:Exit→Act→World→Prop} {md:Region.Mode} {S:World→Prop} {Ls:List Nat} {i j:Nat} {o o':Oper} {fuel:Nat} {listed:Array Bool} {a:Act} {w:World} (hr:Region.ready md ops listed=[i,j]) (ho:ops[i]?=some o) (ho':ops[j]?=some o')
  (h:∀ K':Act→World→Prop,Shut (∀ a' w',(Ls.contains i=true∨(S w→S w'))→wpLate P md ops Q S Ls fuel (listed.setIfInBounds i true) a' w'→K' a' w')→if Region.wanted o (yielded ops a.tmps)=true then Oper.wp P o a w K' Q else K' (a.put o.dst undef) w)
  (h':∀ K':Act→World→Prop,Shut (∀ a' w',(Ls.contains j=true∨(S w→S w'))→wpLate P md ops Q S Ls fuel (listed.setIfInBounds j true) a' w'→K' a' w')→if Region.wanted o' (yielded ops a.tmps)=true then Oper.wp P o' a w K' Q else K' (a.put o'.dst undef) w) :
  wpLate P md ops Q S Ls (fuel+1) listed a w :=
 ⟨fun h0=>(by rw [h0] at hr;cases hr),fun k hk=>by
  rw [hr] at hk
  have hk':k=i∨k=j:=by simpa using hk
  rcases hk' with rfl | rfl
  · exact wpOp_step ho (fun K' hK=>h K' (fun a w hS hW=>hK a w ⟨hS,hW⟩))
  · exact wpOp_step ho' (fun K' hK=>h' K' (fun a w hS hW=>hK a w ⟨hS,hW⟩))⟩

end Go.Proofs.YtpnokfgplnmjpaaGreatDoor


namespace Go.Proofs.YtpnokfgplnmjpaaGreatDoor
open Go.RowKit
attribute [local go_sem ↓] Go.wp_at_zero Go.wp_at_succ

end Go.Proofs.YtpnokfgplnmjpaaGreatDoor


namespace Go.Proofs.YtpnokfgplnmjpaaGreatDoor
open Go.RowKit
attribute [local go_sem ↓] Go.wp_at_zero Go.wp_at_succ

end Go.Proofs.YtpnokfgplnmjpaaGreatDoor


namespace Go.Proofs.YtpnokfgplnmjpaaGreatDoor
open Go.RowKit
attribute [local go_sem ↓] Go.wp_at_zero Go.wp_at_succ

end Go.Proofs.YtpnokfgplnmjpaaGreatDoor


namespace Go.Proofs.YtpnokfgplnmjpaaGreatDoor
open Go.RowKit

end Go.Proofs.YtpnokfgplnmjpaaGreatDoor
