import Derived.Test.YtpnokfgplnmjpaaGreatDoorGPk
import Derived.Test.YtpnokfgplnmjpaaGreatDoorGSgH
import Derived.Test.YtpnokfgplnmjpaaGreatDoorGRefO
import Derived.Test.YtpnokfgplnmjpaaGreatDoorGStC
import Derived.Test.YtpnokfgplnmjpaaGreatDoorGRefI
import Derived.StringKeys
import Derived.Test.YtpnokfgplnmjpaaGreatDoorGSgT
import Derived.Deep.RegionLaw
import Derived.Test.YtpnokfgplnmjpaaGreatDoorGLawA
import Derived.Test.YtpnokfgplnmjpaaGreatDoorGQE
import Derived.Test.YtpnokfgplnmjpaaGreatDoorGRefL
set_option linter.unusedSimpArgs false
set_option linter.unusedVariables false
set_option maxRecDepth 100000
set_option maxHeartbeats 8000000
open Go.Lib (hid)
open Go.Proofs.Tryz (prog)
namespace Go.Proofs.YtpnokfgplnmjpaaGreatDoor
open Go.RowKit
theorem qset {W:World} {g:Nat} {T:TypeId} {x0 x1:Value} (h:W.heap[g]?=some (.cells #[x0,x1] T (0,0))) (x y:Value):((W.setCell ⟨g,0,none⟩ x).setCell ⟨g,1,none⟩ y).heap[g]?=some (.cells #[x,y] T (0,0)):=by
 simp [World.setCell,Array.getElem?_modify,h]
theorem qoth {W:World} {g k:Nat} (hne:k≠g) (x y:Value):((W.setCell ⟨g,0,none⟩ x).setCell ⟨g,1,none⟩ y).heap[k]?=W.heap[k]? :=
 (Below.heap_setCell _ ⟨g,1,none⟩ y k hne).trans (Below.heap_setCell _ ⟨g,0,none⟩ x k hne)
theorem qsz {W:World} {g:Nat} (x y:Value):((W.setCell ⟨g,0,none⟩ x).setCell ⟨g,1,none⟩ y).heap.size=W.heap.size:=by simp [World.setCell]
structure Kb (w:World) (c1 c2:Array Value) (T1 T2:TypeId) (wx:World):Prop where
 k1:wx.heap[w.heap.size]?=some (.cells c1 T1 (0,0))
 k2:wx.heap[w.heap.size+1]?=some (.cells c2 T2 (0,0))
 sz:w.heap.size+2≤wx.heap.size
 bel:Below w.heap.size w wx
structure Kc (w:World) (c1 c2 c3:Array Value) (T1 T2 T3:TypeId) (wx:World):Prop where
 k1:wx.heap[w.heap.size]?=some (.cells c1 T1 (0,0))
 k2:wx.heap[w.heap.size+1]?=some (.cells c2 T2 (0,0))
 k3:wx.heap[w.heap.size+2]?=some (.cells c3 T3 (0,0))
 sz:w.heap.size+3≤wx.heap.size
 bel:Below w.heap.size w wx
section
variable {w w1 w2:World} {c1 c2 c3:Array Value} {T1 T2 T3:TypeId}
theorem Kb.start (w:World) (c1 c2:Array Value) (T1 T2:TypeId):Kb w c1 c2 T1 T2 ((w.alloc (.cells c1 T1)).alloc (.cells c2 T2)) :=
 ⟨heap_fst _ _ _,heap_two _ _ _,by simp,((Below.refl _ _).alloc (Nat.le_refl _) _).alloc (by simp) _⟩
theorem Kb.next (h:Kb w c1 c2 T1 T2 w1) (hb:Below w1.heap.size w1 w2):Kb w c1 c2 T1 T2 w2:=by
 have hs:=h.sz;refine ⟨(hb.block _ om).trans h.k1,(hb.block _ om).trans h.k2,?_,h.bel.trans (hb.mono h.bel.size)⟩;have:=hb.size;omega
theorem Kb.drew (h:Kb w c1 c2 T1 T2 w1):Kb w c1 c2 T1 T2 w1.drew:=h.next (Below.refl _ _).drew
theorem Kb.drewN (h:Kb w c1 c2 T1 T2 w1) (n:Nat):Kb w c1 c2 T1 T2 (w1.drewN n):=h.next (below_draws (Below.refl _ _) n)
theorem Kc.start (w:World) (c1 c2 c3:Array Value) (T1 T2 T3:TypeId):Kc w c1 c2 c3 T1 T2 T3 (((w.alloc (.cells c1 T1)).alloc (.cells c2 T2)).alloc (.cells c3 T3)):=by
 obtain ⟨k1,k2,k3⟩:=heap_three_all w (.cells c1 T1) (.cells c2 T2) (.cells c3 T3);exact k69
theorem Kc.next (h:Kc w c1 c2 c3 T1 T2 T3 w1) (hb:Below w1.heap.size w1 w2):Kc w c1 c2 c3 T1 T2 T3 w2:=by
 have hs:=h.sz;refine ⟨(hb.block _ om).trans h.k1,(hb.block _ om).trans h.k2,(hb.block _ om).trans h.k3,?_,h.bel.trans (hb.mono h.bel.size)⟩;have:=hb.size;omega
theorem Kc.drew (h:Kc w c1 c2 c3 T1 T2 T3 w1):Kc w c1 c2 c3 T1 T2 T3 w1.drew:=h.next (Below.refl _ _).drew
theorem Kc.drewN (h:Kc w c1 c2 c3 T1 T2 T3 w1) (n:Nat):Kc w c1 c2 c3 T1 T2 T3 (w1.drewN n):=h.next (below_draws (Below.refl _ _) n)
theorem Kc.set1 {x0 x1:Value} (h:Kc w #[x0,x1] c2 c3 T1 T2 T3 w1) (x y:Value):Kc w #[x,y] c2 c3 T1 T2 T3 ((w1.setCell ⟨w.heap.size,0,none⟩ x).setCell ⟨w.heap.size,1,none⟩ y) :=
 ⟨qset h.k1 x y,(qoth om x y).trans h.k2,(qoth om x y).trans h.k3,by rw [qsz];exact h.sz,(h.bel.setCell (Nat.le_refl _) _).setCell (Nat.le_refl _) _⟩
theorem Kc.set2 {x0 x1:Value} (h:Kc w c1 #[x0,x1] c3 T1 T2 T3 w1) (x y:Value):Kc w c1 #[x,y] c3 T1 T2 T3 ((w1.setCell ⟨w.heap.size+1,0,none⟩ x).setCell ⟨w.heap.size+1,1,none⟩ y) :=
 ⟨(qoth om x y).trans h.k1,qset h.k2 x y,(qoth om x y).trans h.k3,by rw [qsz];exact h.sz,(h.bel.setCell (by show w.heap.size≤w.heap.size+1;omega) _).setCell (by show w.heap.size≤w.heap.size+1;omega) _⟩
end
theorem blk3 {W:World} {g:Nat} {T:TypeId} {v0 v1 v2:Value} (h:W.heap[g]?=some (.cells #[v0,v1,v2] T (0,0))) :
  W.cell? ⟨g,0,none⟩=some v0∧W.cell? ⟨g,1,none⟩=some v1∧W.cell? ⟨g,2,none⟩=some v2∧W.frozen? ⟨g,0,none⟩=false∧W.frozen? ⟨g,1,none⟩=false∧W.frozen? ⟨g,2,none⟩=false:=by
 refine ⟨?_,?_,?_,?_,?_,?_⟩<;>simp [World.cell?,World.frozen?,h]
theorem blk4 {W:World} {g:Nat} {T:TypeId} {v0 v1 v2 v3:Value} (h:W.heap[g]?=some (.cells #[v0,v1,v2,v3] T (0,0))) :
  W.cell? ⟨g,0,none⟩=some v0∧W.cell? ⟨g,1,none⟩=some v1∧W.cell? ⟨g,2,none⟩=some v2∧W.cell? ⟨g,3,none⟩=some v3:=by
 exact k83
theorem fro4 {W:World} {g:Nat} {T:TypeId} {v0 v1 v2 v3:Value} (h:W.heap[g]?=some (.cells #[v0,v1,v2,v3] T (0,0))) :
  W.frozen? ⟨g,0,none⟩=false∧W.frozen? ⟨g,1,none⟩=false∧W.frozen? ⟨g,2,none⟩=false∧W.frozen? ⟨g,3,none⟩=false:=by
 exact k83
theorem below_set4 {B:Nat} {a W:World} {g:Nat} (h:Below B a W) (hB:B≤g) (x y z u:Value):Below B a ((((W.setCell ⟨g,0,none⟩ x).setCell ⟨g,1,none⟩ y).setCell ⟨g,2,none⟩ z).setCell ⟨g,3,none⟩ u) :=
 (((h.setCell hB _).setCell hB _).setCell hB _).setCell hB _
theorem below_set2 {B:Nat} {a W:World} {g:Nat} (h:Below B a W) (hB:B≤g) (x y:Value):Below B a ((W.setCell ⟨g,0,none⟩ x).setCell ⟨g,1,none⟩ y) :=
 (h.setCell hB _).setCell hB _
def dm (d:Nat):ByteArray:=if d=1 then mag 0 else mag d
structure Rq (q:Rat) (b:Bool) (m k:ByteArray):Prop where
 num:enc q.num=.agg #[.bool b,.string m]
 den:k=dm q.den
theorem Rq.some_ (q:Rat):∃ b m k,Rq q b m k:=⟨_,_,_,rfl,rfl⟩
theorem mag_nil:mag 0=⟨#[]⟩:=by unfold mag;rw [magL_zero]
theorem dm_one:dm 1=⟨#[]⟩:=by unfold dm;rw [if_pos rfl,mag_nil]
structure Env (w:World):Prop where
 tab:Tab w
 lt:0<w.heap.size
 o0:w.cell? ⟨0,0,none⟩=some (.bool false)
 o1:w.cell? ⟨0,1,none⟩=some (.string ⟨#[1]⟩)
theorem Env.below {w w':World} {B:Nat} (h:Env w) (hb:Below B w w') (hB:w.heap.size≤B):Env w' :=
 ⟨h.tab.below hb (Nat.lt_of_lt_of_le h.tab.lt hB),Nat.lt_of_lt_of_le h.lt hb.size,(hb.cell (p:=⟨0,0,none⟩) (Nat.lt_of_lt_of_le h.lt hB)).trans h.o0,(hb.cell (p:=⟨0,1,none⟩) (Nat.lt_of_lt_of_le h.lt hB)).trans h.o1⟩
theorem Env.next {w w':World} (h:Env w) (hb:Below w.heap.size w w'):Env w':=h.below hb (Nat.le_refl _)
theorem Env.drew {w:World} (h:Env w):Env w.drew:=h.next (Below.refl _ _).drew
end Go.Proofs.YtpnokfgplnmjpaaGreatDoor
namespace Go.Proofs.YtpnokfgplnmjpaaGreatDoor
open Go.RowKit
attribute [local go_sem ↓] Go.wp_at_zero Go.wp_at_succ
theorem str_ne {s t:ByteArray} (h:s≠t):(s.data.toList==t.data.toList)=false∧(s.toList==t.toList)=false:=by
 have hnt:¬s.data.toList=t.data.toList:=fun e=>h (by cases s;cases t;simp at e;rw [e])
 have hnl:(s.data.toList==t.data.toList)=false:=by simpa using hnt
 exact ⟨hnl,by rw [ByteArray.toList_eq,ByteArray.toList_eq];exact hnl⟩
theorem below_two (w1:World) (o1 o2:Obj):Below w1.heap.size w1 ((w1.alloc o1).alloc o2):=((Below.refl _ _).alloc (Nat.le_refl _) _).alloc (by simp) _
theorem toList_ne {s:ByteArray} {l:List UInt8} (h:s≠⟨l.toArray⟩):¬s.toList=l:=fun e=>h (by
 rw [ByteArray.toList_eq] at e;cases s;simp at e;rw [←e])
theorem enc_mag (n:Nat):enc (n:Int)=.agg #[.bool false,.string (mag n)]:=by
 unfold enc;have h:decide ((n:Int)<0)=false:=by simp
 rw [h,Int.natAbs_natCast]
theorem mag_ne {n m:Nat} (h:n≠m):mag n≠mag m:=fun e=>h (mag_inj e)
theorem mag_one:mag 1=⟨#[1]⟩:=by
 have h:magL 1=[1]:=by rw [magL_pos dc,show 1 / 256=0 from rfl,magL_zero];rfl
 unfold mag;rw [h]
theorem mag_no_nil {n:Nat} (h:n≠0):mag n≠⟨#[]⟩:=by rw [←mag_nil];exact mag_ne h
theorem mag_no_one {n:Nat} (h:n≠1):mag n≠⟨#[1]⟩:=by rw [←mag_one];exact mag_ne h
theorem isInteger_yes (b:Bool) (m:ByteArray) (w:World):Calls prog 125 #[.agg #[.bool b,.string m,.bool false,.string ⟨#[]⟩]] w (RetB w (.bool true)):=by
 go_enter Tryz.func125,Tryz.ntmps125;go_wp2
 go_ret
 exact ⟨rfl,below_new _ _⟩
theorem isInteger_no (b:Bool) (m k:ByteArray) (hk:k≠⟨#[]⟩) (w:World):Calls prog 125 #[.agg #[.bool b,.string m,.bool false,.string k]] w (RetB w (.bool false)):=by
 obtain ⟨h1,h2⟩:=str_ne hk
 have hs:0<k.size:=by
  rcases Nat.eq_zero_or_pos k.size with h | h
  · exact absurd (ext_bytes (t:=⟨#[]⟩) h (fun i h1 _=>om)) hk
  · exact h
 have h3:=empty_no hs;clear hk;go_enter Tryz.func125,Tryz.ntmps125;go_wp2
 go_ret
 exact ⟨rfl,below_new _ _⟩
theorem Rq.mag {q:Rat} {b:Bool} {m k:ByteArray} (h:Rq q b m k):b=decide (q.num<0)∧m=Go.Proofs.YtpnokfgplnmjpaaGreatDoor.mag q.num.natAbs:=enc_parts h.num
theorem Rq.den1 {q:Rat} {b:Bool} {m k:ByteArray} (h:Rq q b m k) (h1:q.den=1):k=⟨#[]⟩:=by rw [h.den,h1,dm_one]
theorem Rq.den2 {q:Rat} {b:Bool} {m k:ByteArray} (h:Rq q b m k) (h1:q.den≠1):k=Go.Proofs.YtpnokfgplnmjpaaGreatDoor.mag q.den:=by rw [h.den];unfold dm;rw [if_neg h1]
theorem den_f {q:Rat} {b:Bool} {m k:ByteArray} (h:Rq q b m k) (w:World) (hE:Env w):Calls prog 94 #[.agg #[.bool b,.string m,.bool false,.string k]] w (RetB w (.agg #[.bool false,.string (mag q.den)])):=by
 have KK:=hid (Kb.start w #[.bool b,.string m,.bool false,.string k] #[.bool false,.string ⟨#[]⟩] 25 23);have HE:=hid hE;by_cases hden:q.den=1
 · obtain rfl:=h.den1 hden;rw [hden,mag_one];clear h hE hden;go_enter Tryz.func94,Tryz.ntmps94;go_wp2_with fail
   refine (isInteger_yes b m _).mono ?_;rintro e w1 ⟨rfl,hb1⟩;have K1:=hid (KK.out.next hb1);obtain ⟨p0,p1,f0,f1⟩:=blk_cells K1.out.k2;have hE1:=HE.out.next K1.out.bel
   have o0:=hE1.o0;have o1:=hE1.o1;clear hb1 hE1;go_wp2
   exact bodyPost_ret (v:=.agg #[.bool false,.string ⟨#[1]⟩]) (by simp [results,Tryz.results94,go_sem,p0,p1]) rfl ⟨rfl,below_set2 K1.out.bel om _ _⟩
 · obtain rfl:=h.den2 hden;have HNO:=hid (isInteger_no b m (mag q.den) (mag_no_nil q.den_nz));generalize Go.Proofs.YtpnokfgplnmjpaaGreatDoor.mag q.den=k at *;clear h hE hden;go_enter Tryz.func94,Tryz.ntmps94;go_wp2_with fail
   refine (HNO.out _).mono ?_;rintro e w1 ⟨rfl,hb1⟩;have K1:=hid (KK.out.next hb1);obtain ⟨p0,p1,f0,f1⟩:=blk_cells K1.out.k2;obtain ⟨q0,q1,q2,q3⟩:=blk4 K1.out.k1;clear hb1;go_wp2
   exact bodyPost_ret (v:=.agg #[.bool false,.string k]) (by simp [results,Tryz.results94,go_sem,p0,p1]) rfl ⟨rfl,below_set2 K1.out.bel om _ _⟩
theorem coprime_f (b:Bool) (m:ByteArray) (d:Nat) (w:World) (hE:Env w):Calls prog 129 #[.agg #[.bool b,.string m],.agg #[.bool false,.string (mag d)]] w (RetB w (.agg #[.bool b,.string m,.bool false,.string (dm d)])):=by
 have hlt:=hE.lt;have o0:=hE.o0;have o1:=hE.o1;have KK:=hid (Kc.start w #[.bool b,.string m] #[.bool false,.string (mag d)] #[.bool false,.string ⟨#[]⟩,.bool false,.string ⟨#[]⟩] 23 23 25);have hE0:=hE.next KK.out.bel
 have g0:=hE0.o0;have g1:=hE0.o1;clear hE hE0 o0 o1;by_cases hden:d=1
 · subst hden;rw [dm_one,mag_one];rw [mag_one] at KK g0 g1;obtain ⟨t0,t1,t2,t3⟩:=blk4 KK.out.k3;obtain ⟨f0,f1,f2,f3⟩:=fro4 KK.out.k3;go_enter Tryz.func129,Tryz.ntmps129;go_wp2
   exact bodyPost_ret (v:=.agg #[.bool b,.string m,.bool false,.string ⟨#[]⟩]) (by simp [results,Tryz.results129,go_sem,t0,t1,t2,t3]) rfl ⟨rfl,(Kc.start w _ _ _ _ _ _).bel⟩
 · have hdm:dm d=mag d:=by unfold dm;rw [if_neg hden]
   rw [hdm];have hk1:=toList_ne (mag_no_one hden);generalize mag d=k at *;obtain ⟨t0,t1,t2,t3⟩:=blk4 KK.out.k3;obtain ⟨f0,f1,f2,f3⟩:=fro4 KK.out.k3;clear hdm hden;go_enter Tryz.func129,Tryz.ntmps129;go_wp2
   exact bodyPost_ret (v:=.agg #[.bool b,.string m,.bool false,.string k]) (by simp [results,Tryz.results129,go_sem,t0,t1,t2,t3]) rfl ⟨rfl,(Kc.start w _ _ _ _ _ _).bel⟩
theorem common_f {x:Int} {b c:Bool} {m mg:ByteArray} {d:Nat} (hx:enc x=.agg #[.bool b,.string m]) (hg:enc ((Nat.gcd x.natAbs d:Nat):Int)=.agg #[.bool c,.string mg]) (h1:m.size≤100000) (h2:(mag d).size≤100000) (w:World) (hE:Env w) :
  Calls prog 131 #[.agg #[.bool b,.string m],.agg #[.bool false,.string (mag d)]] w (RetB w (.agg #[.bool c,.string mg])):=by
 have KK:=hid (Kc.start w #[.bool b,.string m] #[.bool false,.string (mag d)] #[.bool false,.string ⟨#[]⟩] 23 23 23);have hlt:=hE.lt;have hE0:=hE.next KK.out.bel
 have HE0:=hid hE0;have g0:=hE0.o0;have g1:=hE0.o1;clear hE hE0;by_cases hden:d=1
 · subst hden;rw [Nat.gcd_one_right,show (((1:Nat):Int))=1 from rfl,show enc 1=.agg #[.bool false,.string ⟨#[1]⟩] from by rw [←mag_one];rfl] at hg
   injection hg with hg
   have hc:c=false∧mg=⟨#[1]⟩:=by
    simp at hg;exact ⟨by first | exact hg.1 | exact hg.1.symm,by first | exact hg.2 | exact hg.2.symm⟩
   obtain ⟨rfl,rfl⟩:=hc;rw [mag_one];rw [mag_one] at KK g0 g1;obtain ⟨p0,p1,f0,f1⟩:=blk_cells KK.out.k3;clear hx hg h2 HE0;go_enter Tryz.func131,Tryz.ntmps131;go_wp2
   exact bodyPost_ret (v:=.agg #[.bool false,.string ⟨#[1]⟩]) (by simp [results,Tryz.results131,go_sem,p0,p1]) rfl ⟨rfl,(Kc.start w _ _ _ _ _ _).bel⟩
 · have hk1:=toList_ne (mag_no_one hden);have HG:=hid (fun V (hV:Env V)=>gcd_f hx (show enc (d:Int)=.agg #[.bool false,.string (mag d)] from enc_mag d) (bg:=c) (mg:=mg) (by rw [Int.natAbs_natCast];exact hg) om om V hV.tab);generalize mag d=k at *;clear hx hg hden h1 h2;go_enter Tryz.func131,Tryz.ntmps131;go_wp2_with fail
   refine (HG.out _ HE0.out).mono ?_;rintro e w1 ⟨rfl,hb1⟩;have K1:=hid (KK.out.next hb1);obtain ⟨p0,p1,f0,f1⟩:=blk_cells K1.out.k3;clear hb1 g0 g1;go_wp2
   exact bodyPost_ret (v:=.agg #[.bool c,.string mg]) (by simp [results,Tryz.results131,go_sem,p0,p1]) rfl ⟨rfl,below_set2 K1.out.bel om _ _⟩
theorem quotient_f {x z:Int} {b c:Bool} {m mz:ByteArray} {d:Nat} (hx:enc x=.agg #[.bool b,.string m]) (hz:enc z=.agg #[.bool c,.string mz]) (e:z=x / (d:Int)) (h1:m.size≤100000) (h2:(mag d).size≤100000) (h0:d≠0) (w:World) (hE:Env w) :
  Calls prog 133 #[.agg #[.bool b,.string m],.agg #[.bool false,.string (mag d)]] w (RetB w (.agg #[.bool c,.string mz])):=by
 have KK:=hid (Kc.start w #[.bool b,.string m] #[.bool false,.string (mag d)] #[.bool false,.string ⟨#[]⟩] 23 23 23);have hlt:=hE.lt;have hE0:=hE.next KK.out.bel
 have g0:=hE0.o0;have g1:=hE0.o1;clear hE hE0;by_cases hden:d=1
 · subst hden;have e2:z=x:=by rw [e];simp
   rw [e2,hx] at hz
   injection hz with hz
   have hc:b=c∧m=mz:=by simpa using hz
   obtain ⟨rfl,rfl⟩:=hc;rw [mag_one];rw [mag_one] at KK g0 g1;obtain ⟨p0,p1,f0,f1⟩:=blk_cells KK.out.k3;clear hx hz h2 e e2;go_enter Tryz.func133,Tryz.ntmps133;go_wp2
   exact bodyPost_ret (v:=.agg #[.bool b,.string m]) (by simp [results,Tryz.results133,go_sem,p0,p1]) rfl ⟨rfl,(Kc.start w _ _ _ _ _ _).bel⟩
 · have hk1:=toList_ne (mag_no_one hden);obtain ⟨br,mr,hr⟩:=enc_form (x%(d:Int));have HD:=hid (fun V=>divMod_f hx (show enc (d:Int)=.agg #[.bool false,.string (mag d)] from enc_mag d) om om om hz hr e rfl V);generalize mag d=k at *;clear hx hz hden h1 h2 e hr h0;go_enter Tryz.func133,Tryz.ntmps133;go_wp2_with fail
   refine (HD.out _).mono ?_;rintro e w1 ⟨rfl,hb1⟩;have K1:=hid (KK.out.next hb1);have K2:=hid (fun o1 o2=>K1.out.next (below_two w1 o1 o2));have p0:=fun o1 o2=>(blk_cells (K2.out o1 o2).k3).1
   have p1:=fun o1 o2=>(blk_cells (K2.out o1 o2).k3).2.1
   have f0:=fun o1 o2=>(blk_cells (K2.out o1 o2).k3).2.2.1
   have f1:=fun o1 o2=>(blk_cells (K2.out o1 o2).k3).2.2.2
   clear hb1 g0 g1;go_wp2
   exact bodyPost_ret (v:=.agg #[.bool c,.string mz]) (by simp [results,Tryz.results133,go_sem,p0,p1]) rfl ⟨rfl,below_set2 (K2.out _ _).bel om _ _⟩
structure Bq (g:Nat) (cs:Array Value) (T:TypeId) (wx:World):Prop where
 k:wx.heap[g]?=some (.cells cs T (0,0))
 lt:g<wx.heap.size
theorem Bq.new (w:World) (cs:Array Value) (T:TypeId):Bq w.heap.size cs T (w.alloc (.cells cs T)):=⟨heap_one _ _,by simp⟩
theorem Bq.next {g:Nat} {cs:Array Value} {T:TypeId} {w1 w2:World} (h:Bq g cs T w1) (hb:Below w1.heap.size w1 w2):Bq g cs T w2:=⟨(hb.block _ h.lt).trans h.k,Nat.lt_of_lt_of_le h.lt hb.size⟩
theorem Bq.drew {g:Nat} {cs:Array Value} {T:TypeId} {w1:World} (h:Bq g cs T w1):Bq g cs T w1.drew:=h.next (Below.refl _ _).drew
theorem qoth4 {W:World} {g k:Nat} (hne:k≠g) (x y z u:Value):((((W.setCell ⟨g,0,none⟩ x).setCell ⟨g,1,none⟩ y).setCell ⟨g,2,none⟩ z).setCell ⟨g,3,none⟩ u).heap[k]?=W.heap[k]? :=
 (Below.heap_setCell _ ⟨g,3,none⟩ u k hne).trans ((Below.heap_setCell _ ⟨g,2,none⟩ z k hne).trans ((Below.heap_setCell _ ⟨g,1,none⟩ y k hne).trans (Below.heap_setCell _ ⟨g,0,none⟩ x k hne)))
theorem qsz4 {W:World} {g:Nat} (x y z u:Value):((((W.setCell ⟨g,0,none⟩ x).setCell ⟨g,1,none⟩ y).setCell ⟨g,2,none⟩ z).setCell ⟨g,3,none⟩ u).heap.size=W.heap.size:=by simp [World.setCell]
theorem Bq.set4 {g g':Nat} {cs:Array Value} {T:TypeId} {W:World} (h:Bq g cs T W) (hne:g≠g') (x y z u:Value):Bq g cs T ((((W.setCell ⟨g',0,none⟩ x).setCell ⟨g',1,none⟩ y).setCell ⟨g',2,none⟩ z).setCell ⟨g',3,none⟩ u) :=
 ⟨(qoth4 hne x y z u).trans h.k,by rw [qsz4];exact h.lt⟩
theorem ratSign_f {q:Rat} {b:Bool} {m k:ByteArray} (h:Rq q b m k) (w:World):Calls prog 71 #[.agg #[.bool b,.string m,.bool false,.string k]] w (RetB w (.int .i64 q.num.sign)):=by
 have HS:=hid (fun V=>Sign_f h.num V);have HB:=hid (below_new w (.cells #[.bool b,.string m,.bool false,.string k] 25));generalize q.num.sign=s at *;clear h;go_enter Tryz.func71,Tryz.ntmps71;go_wp2_with fail
 refine (HS.out _).mono ?_;rintro e w1 ⟨rfl,hb1⟩;have B1:=hid (below_step HB.out (Nat.le_refl _) hb1);clear hb1;go_wp2
 go_ret
 exact ⟨rfl,B1.out⟩
theorem one_of {x:Int} {b:Bool} {m:ByteArray} (h:enc x=.agg #[.bool b,.string m]) (h1:x=1):b=false∧m=⟨#[1]⟩:=by
 obtain ⟨e1,e2⟩:=enc_parts h;subst h1;exact ⟨by rw [e1];rfl,by rw [e2];exact mag_one⟩
theorem not_one {x:Int} {b:Bool} {m:ByteArray} (h:enc x=.agg #[.bool b,.string m]) (h1:x≠1):b=true∨(b=false∧¬m.toList=[1]∧¬[1]=m.toList):=by
 obtain ⟨e1,e2⟩:=enc_parts h;cases b
 · right
   have h2:¬x<0:=of_decide_eq_false e1.symm;have h3:m≠⟨#[1]⟩:=by rw [e2];exact mag_no_one om
   have h4:=toList_ne (l:=[1]) h3;exact ⟨rfl,h4,fun e=>h4 e.symm⟩
 · exact .inl rfl
theorem ratTimes_f {x y z:Int} {b1 b2 b3:Bool} {m1 m2 m3:ByteArray} (hx:enc x=.agg #[.bool b1,.string m1]) (hy:enc y=.agg #[.bool b2,.string m2]) (hz:enc z=.agg #[.bool b3,.string m3]) (e:z=x*y) (s1:m1.size≤100000) (s2:m2.size≤100000) (w:World) (hE:Env w) :
  Calls prog 132 #[.agg #[.bool b1,.string m1],.agg #[.bool b2,.string m2]] w (RetB w (.agg #[.bool b3,.string m3])):=by
 have KK:=hid (Kc.start w #[.bool b1,.string m1] #[.bool b2,.string m2] #[.bool false,.string ⟨#[]⟩] 23 23 23);have hlt:=hE.lt;have hE0:=hE.next KK.out.bel
 have g0:=hE0.o0;have g1:=hE0.o1;clear hE hE0;by_cases hx1:x=1
 · obtain ⟨rfl,rfl⟩:=one_of hx hx1;rw [e,hx1,Int.one_mul,hy] at hz;have hc:b2=b3∧m2=m3:=by injection hz with hz;simpa using hz
   obtain ⟨rfl,rfl⟩:=hc;obtain ⟨p0,p1,f0,f1⟩:=blk_cells KK.out.k3;clear hx hy hz hx1 e;go_enter Tryz.func132,Tryz.ntmps132;go_wp2
   exact bodyPost_ret (v:=.agg #[.bool b2,.string m2]) (by simp [results,Tryz.results132,go_sem,p0,p1]) rfl ⟨rfl,(Kc.start w _ _ _ _ _ _).bel⟩
 · by_cases hy1:y=1
   · obtain ⟨rfl,rfl⟩:=one_of hy hy1;rw [e,hy1,Int.mul_one,hx] at hz;have hc:b1=b3∧m1=m3:=by injection hz with hz;simpa using hz
     obtain ⟨rfl,rfl⟩:=hc;obtain ⟨p0,p1,f0,f1⟩:=blk_cells KK.out.k3;have hno:=not_one hx hx1;clear hx hy hz hx1 hy1 e;rcases hno with rfl | ⟨rfl,hn1,hn2⟩
     all_goals
      go_enter Tryz.func132,Tryz.ntmps132;go_wp2
      exact bodyPost_ret (v:=.agg #[.bool _,.string m1]) (by simp [results,Tryz.results132,go_sem,p0,p1]) rfl ⟨rfl,(Kc.start w _ _ _ _ _ _).bel⟩
   · have HM:=hid (fun V=>mul_f hx hy om om hz e V);have hno:=not_one hx hx1;have hno2:=not_one hy hy1;clear hx hy hz hx1 hy1 e;rcases hno with rfl | ⟨rfl,hn1,hn2⟩<;>rcases hno2 with rfl | ⟨rfl,hn3,hn4⟩
     all_goals
      go_enter Tryz.func132,Tryz.ntmps132;go_wp2_with fail
      refine (HM.out _).mono ?_;rintro e w1 ⟨rfl,hb1⟩;have K1:=hid (KK.out.next hb1);obtain ⟨p0,p1,f0,f1⟩:=blk_cells K1.out.k3;clear hb1 g0 g1;go_wp2
      exact bodyPost_ret (v:=.agg #[.bool b3,.string m3]) (by simp [results,Tryz.results132,go_sem,p0,p1]) rfl ⟨rfl,below_set2 K1.out.bel om _ _⟩
theorem canon_enc {x:Int} {b:Bool} {m:ByteArray} (h:enc x=.agg #[.bool b,.string m]):checkV b m=0:=by
 obtain ⟨e1,e2⟩:=enc_parts h;unfold checkV;rw [if_pos];unfold canonB
 split
 · rename_i h1
   have h2:=lead_enc h h1;simpa using h2
 · rename_i h1
   have h2:x.natAbs=0:=mag_zero_iff.1 (by rw [←e2];omega);have h3:x=0:=om;rw [e1,h3];rfl
theorem ratCheck_f {q:Rat} {b:Bool} {m k:ByteArray} (h:Rq q b m k) (s1:m.size≤100000) (s2:k.size≤100000) (w:World) (hE:Env w) :
  Calls prog 69 #[.agg #[.bool b,.string m,.bool false,.string k]] w (RetB w (.int .i64 0)):=by
 have HC1:=hid (fun V=>check_any b m V);rw [canon_enc h.num] at HC1
 have hk:checkV false k=0:=by
  rw [h.den];unfold dm
  split
  · exact canon_enc (enc_mag 0)
  · exact canon_enc (enc_mag q.den)
 have HC2:=hid (fun V=>check_any false k V);rw [hk] at HC2;have HE:=hid (fun V (hb:Below w.heap.size w V)=>hE.next hb);have KK:=hid (Bq.new w #[.bool b,.string m,.bool false,.string k] 25);have BB:=hid (below_new w (.cells #[.bool b,.string m,.bool false,.string k] 25));by_cases hden:q.den=1
 · obtain rfl:=h.den1 hden;clear h hk hE hden;go_enter Tryz.func69,Tryz.ntmps69;go_wp2_with fail
   refine (HC1.out _).mono ?_;rintro e w1 ⟨rfl,hb1⟩;have K1:=hid (KK.out.next hb1);have B1:=hid (below_step BB.out (Nat.le_refl _) hb1);obtain ⟨p0,p1,p2,p3⟩:=blk4 K1.out.k;clear hb1;go_wp2_with fail
   refine (HC2.out _).mono ?_;rintro e w2 ⟨rfl,hb2⟩;have K2:=hid (K1.out.next hb2);have B2:=hid (below_step B1.out (Nat.le_refl _) hb2);obtain ⟨q0,q1,q2,q3⟩:=blk4 K2.out.k;clear hb2 p0 p1 p2 p3;go_wp2_with fail
   refine (isInteger_yes b m _).mono ?_;rintro e w3 ⟨rfl,hb3⟩;have B3:=hid (below_step B2.out (Nat.le_refl _) hb3);clear hb3;go_wp2
   go_ret
   exact ⟨rfl,B3.out⟩
 · obtain rfl:=h.den2 hden;have HNO:=hid (isInteger_no b m (mag q.den) (mag_no_nil q.den_nz));have hk1:=toList_ne (l:=[1]) (mag_no_one hden);have hg:Nat.gcd q.num.natAbs q.den=1:=q.reduced;have HG:=hid (fun V (hV:Env V)=>gcd_f h.num (enc_mag q.den) (bg:=false) (mg:=⟨#[1]⟩) (by rw [Int.natAbs_natCast,hg,←mag_one];exact enc_mag 1) om om V hV.tab);generalize Go.Proofs.YtpnokfgplnmjpaaGreatDoor.mag q.den=k at *;clear h hk hE hden hg;go_enter Tryz.func69,Tryz.ntmps69;go_wp2_with fail
   refine (HC1.out _).mono ?_;rintro e w1 ⟨rfl,hb1⟩;have K1:=hid (KK.out.next hb1);have B1:=hid (below_step BB.out (Nat.le_refl _) hb1);obtain ⟨p0,p1,p2,p3⟩:=blk4 K1.out.k;clear hb1;go_wp2_with fail
   refine (HC2.out _).mono ?_;rintro e w2 ⟨rfl,hb2⟩;have K2:=hid (K1.out.next hb2);have B2:=hid (below_step B1.out (Nat.le_refl _) hb2);obtain ⟨q0,q1,q2,q3⟩:=blk4 K2.out.k;clear hb2 p0 p1 p2 p3;go_wp2_with fail
   refine (HNO.out _).mono ?_;rintro e w3 ⟨rfl,hb3⟩;have K3:=hid (K2.out.next hb3).drew;have B3:=hid (below_step B2.out (Nat.le_refl _) hb3).drew;have E3:=hid (HE.out _ B3.out);obtain ⟨r0,r1,r2,r3⟩:=blk4 K3.out.k;have g0:=E3.out.o0;have g1:=E3.out.o1;simp only [World.cell?_drew] at r0 r1 r2 r3 g0 g1;clear hb3 q0 q1 q2 q3;go_wp2_with fail
   go_region_held3 (fun w'=>w'.cell? ⟨w.heap.size,0,none⟩=some (.bool b)∧w'.cell? ⟨w.heap.size,1,none⟩=some (.string m)∧w'.cell? ⟨w.heap.size,2,none⟩=some (.bool false)∧w'.cell? ⟨w.heap.size,3,none⟩=some (.string k)∧w'.cell? ⟨0,0,none⟩=some (.bool false)∧w'.cell? ⟨0,1,none⟩=some (.string ⟨#[1]⟩))
    (first
     | exact ⟨s0,s1,s2,s3,E4.out.o0,E4.out.o1⟩
     | exact ⟨r0,r1,r2,r3,g0,g1⟩
     | go_keep)
    (first
     | (go_at_call 126;(with_reducible refine (HG.out _ E3.out).mono ?_);rintro e w4 ⟨rfl,hb4⟩;have K4:=hid (K3.out.next hb4);have B4:=hid (below_step B3.out (Nat.le_refl _) hb4);have E4:=hid (HE.out _ B4.out);obtain ⟨s0,s1,s2,s3⟩:=blk4 K4.out.k))
   go_wp2
   go_ret
   exact ⟨rfl,B4.out⟩
end Go.Proofs.YtpnokfgplnmjpaaGreatDoor
namespace Go.Proofs.YtpnokfgplnmjpaaGreatDoor
open Go.RowKit
def gF (V c k j:Nat):Nat:=if j<k then D B64 (V*G19+c) j else D B64 V j
end Go.Proofs.YtpnokfgplnmjpaaGreatDoor
namespace Go.Proofs.YtpnokfgplnmjpaaGreatDoor
end Go.Proofs.YtpnokfgplnmjpaaGreatDoor
namespace Go.Proofs.YtpnokfgplnmjpaaGreatDoor
open Go.RowKit
attribute [local go_sem ↓] Go.wp_at_zero Go.wp_at_succ
end Go.Proofs.YtpnokfgplnmjpaaGreatDoor
namespace Go.Proofs.YtpnokfgplnmjpaaGreatDoor
open Go.RowKit
structure P3 (w:World) (T:TypeId) (ba bt bx:Nat) (a0 a1 t0 t1 x0 x1:Value) (wr:World):Prop where
 ka:wr.heap[ba]?=some (.cells #[a0,a1] T (0,0))
 kt:wr.heap[bt]?=some (.cells #[t0,t1] T (0,0))
 kx:wr.heap[bx]?=some (.cells #[x0,x1] T (0,0))
 la:w.heap.size≤ba
 lt:ba<bt
 lx:bt<bx
 sz:bx<wr.heap.size
 bel:Below w.heap.size w wr
theorem P3.next {w:World} {T:TypeId} {ba bt bx:Nat} {a0 a1 t0 t1 x0 x1:Value} {wr w2:World} (h:P3 w T ba bt bx a0 a1 t0 t1 x0 x1 wr) (hb:Below wr.heap.size wr w2):P3 w T ba bt bx a0 a1 t0 t1 x0 x1 w2:=by
 have h1:=h.la;have h2:=h.lt;have h3:=h.lx;have h4:=h.sz;have h5:=hb.size;exact ⟨(hb.block _ om).trans h.ka,(hb.block _ om).trans h.kt,(hb.block _ om).trans h.kx,h1,h2,h3,om,h.bel.trans (hb.mono om)⟩
theorem enc_nought:enc 0=.agg #[.bool false,.string ⟨#[]⟩]:=by
 unfold enc mag;rw [show (0:Int).natAbs=0 from rfl,magL_zero]
 rfl
end Go.Proofs.YtpnokfgplnmjpaaGreatDoor
namespace Go.Proofs.YtpnokfgplnmjpaaGreatDoor
open Go.RowKit
attribute [local go_sem ↓] Go.wp_at_zero Go.wp_at_succ
theorem blk5 {W:World} {g:Nat} {T:TypeId} {v0 v1 v2 v3 v4:Value} (h:W.heap[g]?=some (.cells #[v0,v1,v2,v3,v4] T (0,0))) :
  W.cell? ⟨g,0,none⟩=some v0∧W.cell? ⟨g,1,none⟩=some v1∧W.cell? ⟨g,2,none⟩=some v2∧W.cell? ⟨g,3,none⟩=some v3∧W.cell? ⟨g,4,none⟩=some v4:=by
 refine ⟨?_,?_,?_,?_,?_⟩<;>simp [World.cell?,World.frozen?,h]
theorem cmpZ_lt {x y:Int} (h:x<y):cmpZ x y=-1:=by unfold cmpZ;simp [h]
theorem cmpZ_gt {x y:Int} (h:y<x):cmpZ x y=1:=by unfold cmpZ;rw [if_neg om,if_pos h]
theorem cmpZ_eq0 {x y:Int} (h:x=y):cmpZ x y=0:=by subst h;unfold cmpZ;simp
theorem isAbove_all (c d n:Nat) (oc:Bool) (r:Bool) (hr:r=true↔Blw c d oc n 1) (s1:(mag c).size≤10000) (s2:(mag d).size≤10000) (s3:(mag n).size≤10000) (w:World) :
  Calls prog 192 #[.agg #[.bool false,.string (mag c),.bool false,.string (mag d),.bool oc],.agg #[.bool false,.string (mag n)]] w (RetB w (.bool r)):=by
 have HM:=hid (fun V=>mul_f (z:=((n*d:Nat):Int)) (enc_mag n) (enc_mag d) om om (enc_mag _) (by rw [Int.natCast_mul]) V);have HC:=hid (fun V=>Compare_f (enc_mag (n*d)) (enc_mag c) V);have KK:=hid (Kb.start w #[.bool false,.string (mag c),.bool false,.string (mag d),.bool oc] #[.bool false,.string (mag n)] 147 23).drew
 have hcase:(cmpZ ((n*d:Nat):Int) (c:Int)=-1∧r=true)∨(cmpZ ((n*d:Nat):Int) (c:Int)=0∧oc=false∧r=true)∨(cmpZ ((n*d:Nat):Int) (c:Int)=0∧oc=true∧r=false)∨(cmpZ ((n*d:Nat):Int) (c:Int)=1∧r=false):=by
  unfold Blw at hr;rw [Nat.mul_one] at hr;rcases Nat.lt_trichotomy (n*d) c with h | h | h
  · exact .inl ⟨cmpZ_lt (Int.ofNat_lt.2 h),hr.2 (.inl h)⟩
  · cases oc
    · exact .inr (.inl ⟨cmpZ_eq0 (by rw [h]),rfl,hr.2 (.inr ⟨h,rfl⟩)⟩)
    · refine .inr (.inr (.inl ⟨cmpZ_eq0 (by rw [h]),rfl,?_⟩));cases r
      · rfl
      · rcases hr.1 rfl with h1 | ⟨_,h1⟩
        · omega
        · cases h1
  · refine .inr (.inr (.inr ⟨cmpZ_gt (Int.ofNat_lt.2 h),?_⟩));cases r
    · rfl
    · rcases hr.1 rfl with h1 | ⟨h1,_⟩<;>omega
 obtain ⟨p0,p1,p2,p3,p4⟩:=blk5 KK.out.k1;obtain ⟨p5,p6,_,_⟩:=blk_cells KK.out.k2;generalize cmpZ ((n*d:Nat):Int) (c:Int)=z at *;generalize mag (n*d)=mnd at *;generalize mag n=mn at *;generalize mag c=mc at *;generalize mag d=md at *;clear hr;rcases hcase with ⟨rfl,rfl⟩ | ⟨rfl,rfl,rfl⟩ | ⟨rfl,rfl,rfl⟩ | ⟨rfl,rfl⟩
 all_goals
  go_enter Tryz.func192,Tryz.ntmps192;go_wp2_with fail
  go_region_held3 (fun w'=>w'.cell? ⟨w.heap.size,0,none⟩=some (.bool false)∧w'.cell? ⟨w.heap.size,1,none⟩=some (.string mc)∧w'.cell? ⟨w.heap.size,2,none⟩=some (.bool false)∧w'.cell? ⟨w.heap.size,3,none⟩=some (.string md)∧w'.cell? ⟨w.heap.size+1,0,none⟩=some (.bool false)∧w'.cell? ⟨w.heap.size+1,1,none⟩=some (.string mn))
   (first
    | exact ⟨r0,r1,r2,r3,r5,r6⟩
    | exact ⟨q0,q1,q2,q3,q5,q6⟩
    | exact ⟨p0,p1,p2,p3,p5,p6⟩
    | go_keep)
   (first
    | (go_at_call 95;(with_reducible refine (HM.out _).mono ?_);rintro e w1 ⟨rfl,hb1⟩;have K1:=hid (KK.out.next hb1);obtain ⟨q0,q1,q2,q3,q4⟩:=blk5 K1.out.k1;obtain ⟨q5,q6,_,_⟩:=blk_cells K1.out.k2)
    | (go_at_call 139;(with_reducible refine (HC.out _).mono ?_);rintro e w2 ⟨rfl,hb2⟩;have K2:=hid (K1.out.next hb2);obtain ⟨r0,r1,r2,r3,r4⟩:=blk5 K2.out.k1;obtain ⟨r5,r6,_,_⟩:=blk_cells K2.out.k2))
  go_wp2
  go_ret
  exact ⟨rfl,K2.out.bel⟩
structure Kd (w:World) (c1 c2 c3 c4:Array Value) (wx:World):Prop where
 k1:wx.heap[w.heap.size]?=some (.cells c1 147 (0,0))
 k2:wx.heap[w.heap.size+1]?=some (.cells c2 147 (0,0))
 k3:wx.heap[w.heap.size+2]?=some (.cells c3 23 (0,0))
 k4:wx.heap[w.heap.size+3]?=some (.cells c4 23 (0,0))
 sz:w.heap.size+4≤wx.heap.size
 bel:Below w.heap.size w wx
section
variable {w w1 w2:World} {c1 c2 c3 c4:Array Value}
theorem Kd.start (w:World) (c1 c2 c3 c4:Array Value):Kd w c1 c2 c3 c4 ((((w.alloc (.cells c1 147)).alloc (.cells c2 147)).alloc (.cells c3 23)).alloc (.cells c4 23)):=by
 obtain ⟨k1,k2,k3⟩:=heap_three_all w (.cells c1 147) (.cells c2 147) (.cells c3 23);have hb:=below_new (((w.alloc (.cells c1 147)).alloc (.cells c2 147)).alloc (.cells c3 23)) (.cells c4 23);have h4:=heap_one (((w.alloc (.cells c1 147)).alloc (.cells c2 147)).alloc (.cells c3 23)) (.cells c4 23);refine ⟨(hb.block _ sm).trans k1,(hb.block _ sm).trans k2,(hb.block _ (by simp)).trans k3,?_,by simp,((((Below.refl _ _).alloc (Nat.le_refl _) _).alloc (by simp) _).alloc sm _).alloc sm _⟩;simpa using h4
theorem Kd.next (h:Kd w c1 c2 c3 c4 w1) (hb:Below w1.heap.size w1 w2):Kd w c1 c2 c3 c4 w2:=by
 have hs:=h.sz;refine ⟨(hb.block _ om).trans h.k1,(hb.block _ om).trans h.k2,(hb.block _ om).trans h.k3,(hb.block _ om).trans h.k4,?_,h.bel.trans (hb.mono h.bel.size)⟩;have:=hb.size;omega
theorem Kd.set3 {x0 x1:Value} (h:Kd w c1 c2 #[x0,x1] c4 w1) (x y:Value):Kd w c1 c2 #[x,y] c4 ((w1.setCell ⟨w.heap.size+2,0,none⟩ x).setCell ⟨w.heap.size+2,1,none⟩ y) :=
 ⟨(qoth om x y).trans h.k1,(qoth om x y).trans h.k2,qset h.k3 x y,(qoth om x y).trans h.k4,by rw [qsz];exact h.sz,below_set2 h.bel om _ _⟩
theorem Kd.set4 {x0 x1:Value} (h:Kd w c1 c2 c3 #[x0,x1] w1) (x y:Value):Kd w c1 c2 c3 #[x,y] ((w1.setCell ⟨w.heap.size+3,0,none⟩ x).setCell ⟨w.heap.size+3,1,none⟩ y) :=
 ⟨(qoth om x y).trans h.k1,(qoth om x y).trans h.k2,(qoth om x y).trans h.k3,qset h.k4 x y,by rw [qsz];exact h.sz,below_set2 h.bel om _ _⟩
end
structure Bs (w:World) (g:Nat) (cs:Array Value) (wx:World):Prop where
 k:wx.heap[g]?=some (.cells cs 23 (0,0))
 lt:g<wx.heap.size
 far:w.heap.size+4≤g
section
variable {w w1 w2:World} {g:Nat} {cs:Array Value}
theorem Bs.next (h:Bs w g cs w1) (hb:Below w1.heap.size w1 w2):Bs w g cs w2:=⟨(hb.block _ h.lt).trans h.k,Nat.lt_of_lt_of_le h.lt hb.size,h.far⟩
theorem Bs.new (w1:World) (cs:Array Value) (h:w.heap.size+4≤w1.heap.size):Bs w w1.heap.size cs (w1.alloc (.cells cs 23)):=⟨heap_one _ _,by simp,h⟩
theorem Bs.set3 (h:Bs w g cs w1) (x y:Value):Bs w g cs ((w1.setCell ⟨w.heap.size+2,0,none⟩ x).setCell ⟨w.heap.size+2,1,none⟩ y) :=
 ⟨(qoth (by have:=h.far;omega) x y).trans h.k,by rw [qsz];exact h.lt,h.far⟩
theorem Bs.set4 (h:Bs w g cs w1) (x y:Value):Bs w g cs ((w1.setCell ⟨w.heap.size+3,0,none⟩ x).setCell ⟨w.heap.size+3,1,none⟩ y) :=
 ⟨(qoth (by have:=h.far;omega) x y).trans h.k,by rw [qsz];exact h.lt,h.far⟩
end
theorem Kd.setFar {w w1:World} {c1 c2 c3 c4:Array Value} {g:Nat} (h:Kd w c1 c2 c3 c4 w1) (hg:w.heap.size+4≤g) (x y:Value):Kd w c1 c2 c3 c4 ((w1.setCell ⟨g,0,none⟩ x).setCell ⟨g,1,none⟩ y) :=
 ⟨(qoth om x y).trans h.k1,(qoth om x y).trans h.k2,(qoth om x y).trans h.k3,(qoth om x y).trans h.k4,by rw [qsz];exact h.sz,below_set2 h.bel om _ _⟩
theorem Bs.setOther {w w1:World} {g g':Nat} {cs:Array Value} (h:Bs w g cs w1) (hne:g≠g') (x y:Value):Bs w g cs ((w1.setCell ⟨g',0,none⟩ x).setCell ⟨g',1,none⟩ y) :=
 ⟨(qoth hne x y).trans h.k,by rw [qsz];exact h.lt,h.far⟩
theorem Bs.setSelf {w w1:World} {g:Nat} {x0 x1:Value} (h:Bs w g #[x0,x1] w1) (x y:Value):Bs w g #[x,y] ((w1.setCell ⟨g,0,none⟩ x).setCell ⟨g,1,none⟩ y) :=
 ⟨qset h.k x y,by rw [qsz];exact h.lt,h.far⟩
theorem Bs.third (w w1:World) (c6 c7 c9:Array Value) (h:w.heap.size+4≤w1.heap.size):Bs w (w1.heap.size+1+1) c9 (((w1.alloc (.cells c6 23)).alloc (.cells c7 23)).alloc (.cells c9 23)) :=
 ⟨heap_three _ _ _ _,by simp,om⟩
theorem Bs.second (w w1:World) (c6 c7 c9:Array Value) (h:w.heap.size+4≤w1.heap.size):Bs w (w1.heap.size+1) c7 (((w1.alloc (.cells c6 23)).alloc (.cells c7 23)).alloc (.cells c9 23)) :=
 ⟨((below_new _ _).block _ (by simp)).trans (heap_two _ _ _),by simp<;>omega,om⟩
theorem Bs.first (w w1:World) (c6 c7 c9:Array Value) (h:w.heap.size+4≤w1.heap.size):Bs w w1.heap.size c6 (((w1.alloc (.cells c6 23)).alloc (.cells c7 23)).alloc (.cells c9 23)) :=
 (Bs.new w1 c6 h).next (below_two _ _ _)
theorem below_three (w1:World) (o1 o2 o3:Obj):Below w1.heap.size w1 (((w1.alloc o1).alloc o2).alloc o3):=(((Below.refl _ _).alloc (Nat.le_refl _) _).alloc (by simp) _).alloc sm _
def RetSm (w:World) (a b:Nat) (oa:Bool) (c d:Nat) (oc:Bool) (e:Ending) (w':World):Prop :=
 ∃ n m,e=.returned (.tuple #[.agg #[.bool false,.string (mag n)],.agg #[.bool false,.string (mag m)]])∧Simp a b oa c d oc n m∧Below w.heap.size w w'
def Ih (F:Nat):Prop:=∀ (a b:Nat) (oa:Bool) (c d:Nat) (oc:Bool) (p q:Nat) (w:World),simpFuel a b c d<F→0<b→Inn a b oa c d oc p q→(mag a).size≤5000→(mag b).size≤5000→(mag c).size≤5000→(mag d).size≤5000→(mag p).size≤5000→(mag q).size≤5000→Env w →
 Calls prog 159 #[.agg #[.bool false,.string (mag a),.bool false,.string (mag b),.bool oa],.agg #[.bool false,.string (mag c),.bool false,.string (mag d),.bool oc]] w (RetSm w a b oa c d oc)
theorem wpLate_two {P:Program} {ops:Array Oper} {Q:Exit→Act→World→Prop} {md:Region.Mode} {S:World→Prop} {Ls:List Nat} {i j:Nat} {o o':Oper} {fuel:Nat} {listed:Array Bool} {a:Act} {w:World} (hr:Region.ready md ops listed=[i,j]) (ho:ops[i]?=some o) (ho':ops[j]?=some o')
  (h:∀ K':Act→World→Prop,Shut (∀ a' w',(Ls.contains i=true∨(S w→S w'))→wpLate P md ops Q S Ls fuel (listed.setIfInBounds i true) a' w'→K' a' w')→if Region.wanted o (yielded ops a.tmps)=true then Oper.wp P o a w K' Q else K' (a.put o.dst undef) w)
  (h':∀ K':Act→World→Prop,Shut (∀ a' w',(Ls.contains j=true∨(S w→S w'))→wpLate P md ops Q S Ls fuel (listed.setIfInBounds j true) a' w'→K' a' w')→if Region.wanted o' (yielded ops a.tmps)=true then Oper.wp P o' a w K' Q else K' (a.put o'.dst undef) w) :
  wpLate P md ops Q S Ls (fuel+1) listed a w :=
 ⟨fun h0=>(by rw [h0] at hr;cases hr),fun k hk=>by
  rw [hr] at hk;have hk':k=i∨k=j:=by simpa using hk
  rcases hk' with rfl | rfl
  · exact k74
  · exact wpOp_step ho' (fun K' hK=>h' K' (fun a w hS hW=>hK a w ⟨hS,hW⟩))⟩
structure R7 (w:World) (c1 c2 c6 c7 c10:Array Value) (g6 g7 g10:Nat) (wx:World):Prop where
 k:Kd w c1 c2 #[.bool false,.string ⟨#[]⟩] #[.bool false,.string ⟨#[]⟩] wx
 b6:Bs w g6 c6 wx
 b7:Bs w g7 c7 wx
 b10:Bs w g10 c10 wx
theorem R7.late {w W:World} {c1 c2 c6 c7:Array Value} {g6 g7:Nat} (k:Kd w c1 c2 #[.bool false,.string ⟨#[]⟩] #[.bool false,.string ⟨#[]⟩] W) (b6:Bs w g6 c6 W) (b7:Bs w g7 c7 W) (c10:Array Value):R7 w c1 c2 c6 c7 c10 g6 g7 W.heap.size (W.alloc (.cells c10 23)) :=
 ⟨k.next (below_new _ _),b6.next (below_new _ _),b7.next (below_new _ _),Bs.new W c10 k.sz⟩
theorem R7.early {w W:World} {c1 c2 c6 c7:Array Value} {g6 g7 g10:Nat} {x0 x1:Value} (k:Kd w c1 c2 #[.bool false,.string ⟨#[]⟩] #[.bool false,.string ⟨#[]⟩] W) (b6:Bs w g6 c6 W) (b7:Bs w g7 c7 W) (b10:Bs w g10 #[x0,x1] W) (h6:g6<g10) (h7:g7<g10) (x y:Value):R7 w c1 c2 c6 c7 #[x,y] g6 g7 g10 ((W.setCell ⟨g10,0,none⟩ x).setCell ⟨g10,1,none⟩ y) :=
 ⟨k.setFar b10.far x y,b6.setOther om x y,b7.setOther om x y,b10.setSelf x y⟩
theorem simplest_step1 (F:Nat) (HI:Hid (Ih F)) (a b:Nat) (oa:Bool) (c d:Nat) (oc:Bool) (p q:Nat) (w:World) (hF:simpFuel a b c d<F+1) (hb:0<b) (hin:Inn a b oa c d oc p q) (sa:(mag a).size≤5000) (sb:(mag b).size≤5000) (sc:(mag c).size≤5000) (sd:(mag d).size≤5000) (sp:(mag p).size≤5000) (sq:(mag q).size≤5000) (hE:Env w) (hcase:oa=true∧leastOf a b oa=a / b+1) :
  Calls prog 159 #[.agg #[.bool false,.string (mag a),.bool false,.string (mag b),.bool oa],.agg #[.bool false,.string (mag c),.bool false,.string (mag d),.bool oc]] w (RetSm w a b oa c d oc):=by
 have HB:=hid hb;have HIN:=hid hin;have HFU:=hid hF;have HE:=hid (fun V (h:Below w.heap.size w V)=>hE.next h);have HSZ:=hid (And.intro sa (And.intro sb (And.intro sc (And.intro sd (And.intro sp sq)))));have HDM:=hid (fun V=>divMod_f (q:=((a / b:Nat):Int)) (r:=((a%b:Nat):Int)) (enc_mag a) (enc_mag b) om om om (enc_mag _) (enc_mag _) (by rw [Int.natCast_ediv]) (by rw [Int.natCast_emod]) V);have HSG:=hid (fun V=>Sign_f (enc_mag (a%b)) V);have sf:(mag (a / b)).size≤5000:=Nat.le_trans (nd_div a b) sa;have sr:(mag (a%b)).size≤5000:=Nat.le_trans (nd_mono (Nat.mod_le a b)) sa;have hln:=least_num hb hin.1 hin.2.1;have sL:(mag (leastOf a b oa)).size≤5000:=Nat.le_trans (nd_mono hln) sp;have HAD:=hid (fun V=>add_f (z:=((a / b+1:Nat):Int)) (enc_mag (a / b)) (show enc (1:Int)=.agg #[.bool false,.string ⟨#[1]⟩] from by rw [←mag_one];exact enc_mag 1) om dc (enc_mag _) (by rw [Int.natCast_add];rfl) V);have KK:=hid (Kd.start w #[.bool false,.string (mag a),.bool false,.string (mag b),.bool oa] #[.bool false,.string (mag c),.bool false,.string (mag d),.bool oc] #[.bool false,.string ⟨#[]⟩] #[.bool false,.string ⟨#[]⟩]);clear hb hin hF hE sa sb sc sd sp sq hln;obtain ⟨L,hLL⟩:∃ L,leastOf a b oa=L:=⟨_,rfl⟩
 rw [hLL] at sL;rw [hLL] at hcase;have HLL:=hid hLL
 obtain ⟨r,hr⟩:∃ r:Bool,r=true↔Blw c d oc L 1:=by
  exact k80
 have HAB:=hid (fun V=>isAbove_all c d L oc r hr (Nat.le_trans HSZ.out.2.2.1 om) (Nat.le_trans HSZ.out.2.2.2.1 om) (Nat.le_trans sL om) V);have HR:=hid hr;clear hLL hr;obtain ⟨rfl,hL⟩:=hcase;rw [←hL] at HAD;clear hL;go_enter Tryz.func159,Tryz.ntmps159;go_wp2_with fail
 refine (HDM.out _).mono ?_;rintro e w1 ⟨rfl,hb1⟩;have K1:=hid (KK.out.next hb1);have hs1:=K1.out.sz;have K2:=hid (fun o1 o2 o3=>K1.out.next (below_three w1 o1 o2 o3));have p4:=fun o1 o2 o3=>(blk5 (K2.out o1 o2 o3).k1).2.2.2.2
 have g0:=fun o1 o2 o3=>(HE.out _ (K2.out o1 o2 o3).bel).o0
 have g1:=fun o1 o2 o3=>(HE.out _ (K2.out o1 o2 o3).bel).o1
 have hh:=fun o1 o2 o3=>blk5 (K2.out o1 o2 o3).k2
 have h0:=fun o1 o2 o3=>(hh o1 o2 o3).1
 have h1:=fun o1 o2 o3=>(hh o1 o2 o3).2.1
 have h2:=fun o1 o2 o3=>(hh o1 o2 o3).2.2.1
 have h3:=fun o1 o2 o3=>(hh o1 o2 o3).2.2.2.1
 have h4:=fun o1 o2 o3=>(hh o1 o2 o3).2.2.2.2
 clear hb1 hh;go_wp2_with fail
 obtain ⟨w3,hw3⟩:∃ W,W=((w1.alloc (.cells #[.bool false,.string (mag (a / b))] 23)).alloc (.cells #[.bool false,.string (mag (a%b))] 23)).alloc (.cells #[.bool false,.string (mag (a / b))] 23):=⟨_,rfl⟩
 have K3:=hid (K2.out (.cells #[.bool false,.string (mag (a / b))] 23) (.cells #[.bool false,.string (mag (a%b))] 23) (.cells #[.bool false,.string (mag (a / b))] 23));have B6:=hid (Bs.first w w1 #[.bool false,.string (mag (a / b))] #[.bool false,.string (mag (a%b))] #[.bool false,.string (mag (a / b))] hs1);have B7:=hid (Bs.second w w1 #[.bool false,.string (mag (a / b))] #[.bool false,.string (mag (a%b))] #[.bool false,.string (mag (a / b))] hs1);have B9:=hid (Bs.third w w1 #[.bool false,.string (mag (a / b))] #[.bool false,.string (mag (a%b))] #[.bool false,.string (mag (a / b))] hs1);rw [←hw3] at K3 B6 B7 B9;rw [←hw3];clear hw3 K2 p4 g0 g1 h0 h1 h2 h3 h4;refine (HAD.out _).mono ?_;rintro e w5 ⟨rfl,hb5⟩;have K5:=hid (K3.out.next hb5);have B6:=hid (B6.out.next hb5);have B7:=hid (B7.out.next hb5);have B9:=hid (B9.out.next hb5);clear hb5;obtain ⟨n0,n1,n2,n3⟩:=blk_cells B9.out.k;have hh:=blk5 (K5.out.setFar B9.out.far (.bool false) (.string (mag L))).k2;obtain ⟨h0,h1,h2,h3,h4⟩:=hh;go_wp2_with fail
 obtain ⟨V,hV⟩:∃ W,W=((w5.setCell ⟨w1.heap.size+1+1,0,none⟩ (.bool false)).setCell ⟨w1.heap.size+1+1,1,none⟩ (.string (mag L))):=⟨_,rfl⟩
 have KV:=hid (K5.out.setFar B9.out.far (.bool false) (.string (mag L)));have V6:=hid (B6.out.setOther (g':=w1.heap.size+1+1) om (.bool false) (.string (mag L)));have V7:=hid (B7.out.setOther (g':=w1.heap.size+1+1) om (.bool false) (.string (mag L)));have V9:=hid (B9.out.setSelf (.bool false) (.string (mag L)));rw [←hV] at KV V6 V7 V9;rw [←hV];clear hV h0 h1 h2 h3 h4 n0 n1 n2 n3 K5 K3 B6 B7 B9;refine (HAB.out _).mono ?_;rintro e w6 ⟨rfl,hb6⟩;have KV:=hid (KV.out.next hb6);have V6:=hid (V6.out.next hb6);have V7:=hid (V7.out.next hb6);have V9:=hid (V9.out.next hb6);clear hb6;cases r
 · have hn:¬Blw c d oc L 1:=fun h=>by have:=HR.out.2 h;cases this
   rw [←HLL.out] at hn;obtain ⟨_,hcd,hin2,_⟩:=inn_turn HB.out HIN.out hn;have hless:=simp_less HB.out HIN.out hn;have HTURN:=hid (fun n m h=>simp_turn (n:=n) (m:=m) HB.out HIN.out hn h);obtain ⟨U,hU⟩:∃ U,c-a / b*d=U:=⟨_,rfl⟩
   rw [hU] at hin2 hless HTURN;have hU0:0<U:=om;have sU:(mag U).size≤5000:=Nat.le_trans (nd_mono om) HSZ.out.2.2.1;have sM:(mag (a / b*d)).size≤10000:=Nat.le_trans (nd_mul _ _) (by have:=HSZ.out.2.2.2.1;unfold nd;omega);have HMU:=hid (fun V=>mul_f (z:=((a / b*d:Nat):Int)) (enc_mag (a / b)) (enc_mag d) om (by have:=HSZ.out.2.2.2.1;omega) (enc_mag _) (by rw [Int.natCast_mul]) V);have HSU:=hid (fun V=>sub_f (z:=(U:Int)) (enc_mag c) (enc_mag (a / b*d)) (by have:=HSZ.out.2.2.1;omega) om (enc_mag _) (by rw [←hU];omega) V);have HIH:=hid (fun V (hV:Env V)=>HI.out d U oc b (a%b) true q (p-a / b*q) V (by have:=HFU.out;omega) hU0 hin2 HSZ.out.2.2.2.1 sU HSZ.out.2.1 sr HSZ.out.2.2.2.2.2 (Nat.le_trans (nd_mono (Nat.sub_le _ _)) HSZ.out.2.2.2.2.1) hV);have HIN2:=hid hin2;generalize mag (a / b*d)=md' at *;obtain ⟨h0,h1,h2,h3,h4⟩:=blk5 KV.out.k2;obtain ⟨m0,m1,_,_⟩:=blk_cells V6.out.k;have M6:w1.heap.size<w6.heap.size:=V6.out.lt;have M7:w1.heap.size+1<w6.heap.size:=V7.out.lt;obtain ⟨i0,i1,i2,i3,i4⟩:=blk5 (KV.out.next (below_new w6 (.cells #[.bool false,.string ⟨#[]⟩] 23))).k2;obtain ⟨j0,j1,_,_⟩:=blk_cells (V6.out.next (below_new w6 (.cells #[.bool false,.string ⟨#[]⟩] 23))).k;clear hn hcd hin2 hless hU hU0 V9;go_upto_region 7 with fail
   go_cut [10] (fun s10 wx=>∃ g10,s10=.pointer (some ⟨g10,0,none⟩)∧R7 w #[.bool false,.string (mag a),.bool false,.string (mag b),.bool true] #[.bool false,.string (mag c),.bool false,.string (mag d),.bool oc] #[.bool false,.string (mag (a / b))] #[.bool false,.string (mag (a%b))] #[.bool false,.string (mag U)] w1.heap.size (w1.heap.size+1) g10 wx)
   case first =>
    exact k7
   case rest =>
    exact k0
 · have HSI:=hid (show Simp a b true c d oc L 1 by rw [←HLL.out];exact simp_int HB.out (by rw [HLL.out];exact HR.out.1 rfl));exact k16
theorem simplest_step2 (F:Nat) (HI:Hid (Ih F)) (a b:Nat) (oa:Bool) (c d:Nat) (oc:Bool) (p q:Nat) (w:World) (hF:simpFuel a b c d<F+1) (hb:0<b) (hin:Inn a b oa c d oc p q) (sa:(mag a).size≤5000) (sb:(mag b).size≤5000) (sc:(mag c).size≤5000) (sd:(mag d).size≤5000) (sp:(mag p).size≤5000) (sq:(mag q).size≤5000) (hE:Env w) (hcase:oa=false∧Int.sign ((a%b:Nat):Int)=1∧leastOf a b oa=a / b+1) :
  Calls prog 159 #[.agg #[.bool false,.string (mag a),.bool false,.string (mag b),.bool oa],.agg #[.bool false,.string (mag c),.bool false,.string (mag d),.bool oc]] w (RetSm w a b oa c d oc):=by
 have HB:=hid hb;have HIN:=hid hin;have HFU:=hid hF;have HE:=hid (fun V (h:Below w.heap.size w V)=>hE.next h);have HSZ:=hid (And.intro sa (And.intro sb (And.intro sc (And.intro sd (And.intro sp sq)))));have HDM:=hid (fun V=>divMod_f (q:=((a / b:Nat):Int)) (r:=((a%b:Nat):Int)) (enc_mag a) (enc_mag b) om om om (enc_mag _) (enc_mag _) (by rw [Int.natCast_ediv]) (by rw [Int.natCast_emod]) V);have HSG:=hid (fun V=>Sign_f (enc_mag (a%b)) V);have sf:(mag (a / b)).size≤5000:=Nat.le_trans (nd_div a b) sa;have sr:(mag (a%b)).size≤5000:=Nat.le_trans (nd_mono (Nat.mod_le a b)) sa;have hln:=least_num hb hin.1 hin.2.1;have sL:(mag (leastOf a b oa)).size≤5000:=Nat.le_trans (nd_mono hln) sp;have HAD:=hid (fun V=>add_f (z:=((a / b+1:Nat):Int)) (enc_mag (a / b)) (show enc (1:Int)=.agg #[.bool false,.string ⟨#[1]⟩] from by rw [←mag_one];exact enc_mag 1) om dc (enc_mag _) (by rw [Int.natCast_add];rfl) V);have KK:=hid (Kd.start w #[.bool false,.string (mag a),.bool false,.string (mag b),.bool oa] #[.bool false,.string (mag c),.bool false,.string (mag d),.bool oc] #[.bool false,.string ⟨#[]⟩] #[.bool false,.string ⟨#[]⟩]);clear hb hin hF hE sa sb sc sd sp sq hln;obtain ⟨L,hLL⟩:∃ L,leastOf a b oa=L:=⟨_,rfl⟩
 rw [hLL] at sL;rw [hLL] at hcase;have HLL:=hid hLL
 obtain ⟨r,hr⟩:∃ r:Bool,r=true↔Blw c d oc L 1:=by
  exact k80
 have HAB:=hid (fun V=>isAbove_all c d L oc r hr (Nat.le_trans HSZ.out.2.2.1 om) (Nat.le_trans HSZ.out.2.2.2.1 om) (Nat.le_trans sL om) V);have HR:=hid hr;clear hLL hr;obtain ⟨rfl,hs,hL⟩:=hcase;rw [hs] at HSG;rw [←hL] at HAD;clear hL hs;go_enter Tryz.func159,Tryz.ntmps159;go_wp2_with fail
 refine (HDM.out _).mono ?_;rintro e w1 ⟨rfl,hb1⟩;have K1:=hid (KK.out.next hb1);have hs1:=K1.out.sz;have K2:=hid (fun o1 o2 o3=>K1.out.next (below_three w1 o1 o2 o3));have p4:=fun o1 o2 o3=>(blk5 (K2.out o1 o2 o3).k1).2.2.2.2
 have g0:=fun o1 o2 o3=>(HE.out _ (K2.out o1 o2 o3).bel).o0
 have g1:=fun o1 o2 o3=>(HE.out _ (K2.out o1 o2 o3).bel).o1
 have hh:=fun o1 o2 o3=>blk5 (K2.out o1 o2 o3).k2
 have h0:=fun o1 o2 o3=>(hh o1 o2 o3).1
 have h1:=fun o1 o2 o3=>(hh o1 o2 o3).2.1
 have h2:=fun o1 o2 o3=>(hh o1 o2 o3).2.2.1
 have h3:=fun o1 o2 o3=>(hh o1 o2 o3).2.2.2.1
 have h4:=fun o1 o2 o3=>(hh o1 o2 o3).2.2.2.2
 clear hb1 hh;go_wp2_with fail
 obtain ⟨w3,hw3⟩:∃ W,W=((w1.alloc (.cells #[.bool false,.string (mag (a / b))] 23)).alloc (.cells #[.bool false,.string (mag (a%b))] 23)).alloc (.cells #[.bool false,.string (mag (a / b))] 23):=⟨_,rfl⟩
 have K3:=hid (K2.out (.cells #[.bool false,.string (mag (a / b))] 23) (.cells #[.bool false,.string (mag (a%b))] 23) (.cells #[.bool false,.string (mag (a / b))] 23));have B6:=hid (Bs.first w w1 #[.bool false,.string (mag (a / b))] #[.bool false,.string (mag (a%b))] #[.bool false,.string (mag (a / b))] hs1);have B7:=hid (Bs.second w w1 #[.bool false,.string (mag (a / b))] #[.bool false,.string (mag (a%b))] #[.bool false,.string (mag (a / b))] hs1);have B9:=hid (Bs.third w w1 #[.bool false,.string (mag (a / b))] #[.bool false,.string (mag (a%b))] #[.bool false,.string (mag (a / b))] hs1);rw [←hw3] at K3 B6 B7 B9;rw [←hw3];clear hw3 K2 p4 g0 g1 h0 h1 h2 h3 h4;refine (HSG.out _).mono ?_;rintro e w4 ⟨rfl,hb4⟩;have K3:=hid (K3.out.next hb4);have B6:=hid (B6.out.next hb4);have B7:=hid (B7.out.next hb4);have B9:=hid (B9.out.next hb4);clear hb4;have hh:=blk5 K3.out.k2;obtain ⟨h0,h1,h2,h3,h4⟩:=hh;obtain ⟨n0,n1,n2,n3⟩:=blk_cells B9.out.k;have g0:=(HE.out _ K3.out.bel).o0;have g1:=(HE.out _ K3.out.bel).o1;obtain ⟨m0,m1,_,_⟩:=blk_cells B6.out.k;go_wp2_with fail
 clear h0 h1 h2 h3 h4 n0 n1 n2 n3 g0 g1 m0 m1;refine (HAD.out _).mono ?_;rintro e w5 ⟨rfl,hb5⟩;have K5:=hid (K3.out.next hb5);have B6:=hid (B6.out.next hb5);have B7:=hid (B7.out.next hb5);have B9:=hid (B9.out.next hb5);clear hb5;obtain ⟨n0,n1,n2,n3⟩:=blk_cells B9.out.k;have hh:=blk5 (K5.out.setFar B9.out.far (.bool false) (.string (mag L))).k2;obtain ⟨h0,h1,h2,h3,h4⟩:=hh;go_wp2_with fail
 obtain ⟨V,hV⟩:∃ W,W=((w5.setCell ⟨w1.heap.size+1+1,0,none⟩ (.bool false)).setCell ⟨w1.heap.size+1+1,1,none⟩ (.string (mag L))):=⟨_,rfl⟩
 have KV:=hid (K5.out.setFar B9.out.far (.bool false) (.string (mag L)));have V6:=hid (B6.out.setOther (g':=w1.heap.size+1+1) om (.bool false) (.string (mag L)));have V7:=hid (B7.out.setOther (g':=w1.heap.size+1+1) om (.bool false) (.string (mag L)));have V9:=hid (B9.out.setSelf (.bool false) (.string (mag L)));rw [←hV] at KV V6 V7 V9;rw [←hV];clear hV h0 h1 h2 h3 h4 n0 n1 n2 n3 K5 K3 B6 B7 B9;refine (HAB.out _).mono ?_;rintro e w6 ⟨rfl,hb6⟩;have KV:=hid (KV.out.next hb6);have V6:=hid (V6.out.next hb6);have V7:=hid (V7.out.next hb6);have V9:=hid (V9.out.next hb6);clear hb6;cases r
 · have hn:¬Blw c d oc L 1:=fun h=>by have:=HR.out.2 h;cases this
   rw [←HLL.out] at hn;obtain ⟨_,hcd,hin2,_⟩:=inn_turn HB.out HIN.out hn;have hless:=simp_less HB.out HIN.out hn;have HTURN:=hid (fun n m h=>simp_turn (n:=n) (m:=m) HB.out HIN.out hn h);obtain ⟨U,hU⟩:∃ U,c-a / b*d=U:=⟨_,rfl⟩
   rw [hU] at hin2 hless HTURN;have hU0:0<U:=om;have sU:(mag U).size≤5000:=Nat.le_trans (nd_mono om) HSZ.out.2.2.1;have sM:(mag (a / b*d)).size≤10000:=Nat.le_trans (nd_mul _ _) (by have:=HSZ.out.2.2.2.1;unfold nd;omega);have HMU:=hid (fun V=>mul_f (z:=((a / b*d:Nat):Int)) (enc_mag (a / b)) (enc_mag d) om (by have:=HSZ.out.2.2.2.1;omega) (enc_mag _) (by rw [Int.natCast_mul]) V);have HSU:=hid (fun V=>sub_f (z:=(U:Int)) (enc_mag c) (enc_mag (a / b*d)) (by have:=HSZ.out.2.2.1;omega) om (enc_mag _) (by rw [←hU];omega) V);have HIH:=hid (fun V (hV:Env V)=>HI.out d U oc b (a%b) false q (p-a / b*q) V (by have:=HFU.out;omega) hU0 hin2 HSZ.out.2.2.2.1 sU HSZ.out.2.1 sr HSZ.out.2.2.2.2.2 (Nat.le_trans (nd_mono (Nat.sub_le _ _)) HSZ.out.2.2.2.2.1) hV);have HIN2:=hid hin2;generalize mag (a / b*d)=md' at *;obtain ⟨h0,h1,h2,h3,h4⟩:=blk5 KV.out.k2;obtain ⟨m0,m1,_,_⟩:=blk_cells V6.out.k;have M6:w1.heap.size<w6.heap.size:=V6.out.lt;have M7:w1.heap.size+1<w6.heap.size:=V7.out.lt;obtain ⟨i0,i1,i2,i3,i4⟩:=blk5 (KV.out.next (below_new w6 (.cells #[.bool false,.string ⟨#[]⟩] 23))).k2;obtain ⟨j0,j1,_,_⟩:=blk_cells (V6.out.next (below_new w6 (.cells #[.bool false,.string ⟨#[]⟩] 23))).k;clear hn hcd hin2 hless hU hU0 V9;go_upto_region 7 with fail
   go_cut [10] (fun s10 wx=>∃ g10,s10=.pointer (some ⟨g10,0,none⟩)∧R7 w #[.bool false,.string (mag a),.bool false,.string (mag b),.bool false] #[.bool false,.string (mag c),.bool false,.string (mag d),.bool oc] #[.bool false,.string (mag (a / b))] #[.bool false,.string (mag (a%b))] #[.bool false,.string (mag U)] w1.heap.size (w1.heap.size+1) g10 wx)
   case first =>
    exact k7
   case rest =>
    exact k0
 · have HSI:=hid (show Simp a b false c d oc L 1 by rw [←HLL.out];exact simp_int HB.out (by rw [HLL.out];exact HR.out.1 rfl));exact k16
end Go.Proofs.YtpnokfgplnmjpaaGreatDoor
