import Derived.Test.YtpnokfgplnmjpaaGreatDoorGRLG
import Derived.Test.YtpnokfgplnmjpaaGreatDoorGRCB
import Derived.Test.YtpnokfgplnmjpaaGreatDoorGRCA
import Derived.Test.YtpnokfgplnmjpaaGreatDoorGRLN
import Derived.Test.YtpnokfgplnmjpaaGreatDoorGRLL
set_option linter.unusedSimpArgs false
set_option linter.unusedVariables false

namespace Go.Proofs.YtpnokfgplnmjpaaGreatDoor
open Go.RowKit
attribute [local go_sem ↓] Go.wp_at_zero Go.wp_at_succ

theorem wrap_small {x:Int} (h1:-9223372036854775808≤x) (h2:x≤9223372036854775807):IntKind.i64.wrap x=x:=by
 rw [IntKind.wrap_i64]
 omega

set_option maxHeartbeats 8000000 in
set_option maxRecDepth 100000 in
theorem bytes_w (b1 d1:Bool) (m1 k1:ByteArray) (hm:m1.size≤140737488351232) (hk:k1.size≤140737488351232) (w:World) :
  Calls Tryz.prog 16 #[.agg #[.bool b1,.string m1,.bool d1,.string k1]] w (RetB w (.int .i64 ((m1.size:Int)+(k1.size:Int)))):=by
 have hw:IntKind.i64.wrap ((m1.size:Int)+(k1.size:Int))=(m1.size:Int)+(k1.size:Int):=wrap_small (by omega) (by omega)
 go_enter Tryz.func16,Tryz.ntmps16
 exact wk0

theorem sz8 {q:Rat} {b:Bool} {m k:ByteArray} (h:Rq q b m k) (hm:m.size≤8) (hk:k.size≤8):Sz 8 q:=by
 have h1:=bval_lt m
 rw [h.bval] at h1
 refine ⟨Nat.lt_of_lt_of_le h1 (Nat.pow_le_pow_right (by decide) hm),?_⟩
 by_cases hd:q.den=1
 · rw [hd];decide
 · have h2:=bval_lt k
   rw [h.den2 hd,bval_mag] at h2
   rw [h.den2 hd] at hk
   exact Nat.lt_of_lt_of_le h2 (Nat.pow_le_pow_right (by decide) hk)
end Go.Proofs.YtpnokfgplnmjpaaGreatDoor


namespace Go.Proofs.YtpnokfgplnmjpaaGreatDoor
open Go.RowKit
attribute [local go_sem ↓] Go.wp_at_zero Go.wp_at_succ

theorem Sz.whole {n:Int} (h:n.natAbs≤255):Sz 1 (n:Rat):=⟨by show (n:Rat).num.natAbs<256^1;rw [Rat.num_intCast];omega,by show (n:Rat).den<256^1;rw [Rat.den_intCast];decide⟩
theorem whole_q {n:Int} (h:n.natAbs≤255):∃ b m,Rq (n:Rat) b m ⟨#[]⟩∧∀ V,Calls Tryz.prog 21 #[.int .i64 n] V (RetB V (.agg #[.bool b,.string m,.bool false,.string ⟨#[]⟩])):=by
 obtain ⟨b,m,k,hq⟩:=Rq.some_ (n:Rat)
 obtain rfl:=hq.den1 (Rat.den_intCast n)
 exact ⟨b,m,hq,fun V=>whole_f (by have h1:=hq.num;rw [Rat.num_intCast] at h1;exact h1) (by omega) (by omega) V⟩
end Go.Proofs.YtpnokfgplnmjpaaGreatDoor


namespace Go.Proofs.YtpnokfgplnmjpaaGreatDoor
open Go.RowKit
attribute [local go_sem ↓] Go.wp_at_zero Go.wp_at_succ

theorem ok_false {x:Sg.Rl} {b1 c1 s1:Bool} {m1 k1 n1 l1:ByteArray} (hx:Rv x b1 m1 k1 c1 n1 l1 s1) (h:0<x.a):c1=false:=by
 rw [hx.r.mag.1]
 have h1:¬x.a.num<0:=by rw [num_neg_iff];grind
 exact decide_eq_false h1
theorem cmp_f {x y:Sg.Rl} {b1 c1 s1 b2 c2 s2:Bool} {m1 k1 n1 l1 m2 k2 n2 l2:ByteArray} (hx:Rv x b1 m1 k1 c1 n1 l1 s1) (hy:Rv y b2 m2 k2 c2 n2 l2 s2) (okx:x.Ok) (oky:y.Ok) (zx:Rz 500 x) (zy:Rz 500 y) (w:World) (hE:Env w):Calls Tryz.prog 34 #[.agg #[.bool b1,.string m1,.bool false,.string k1,.bool c1,.string n1,.bool false,.string l1,.bool s1],.agg #[.bool b2,.string m2,.bool false,.string k2,.bool c2,.string n2,.bool false,.string l2,.bool s2]] w (RetB w (.int .i64 (Sg.cmpX x y))):=by
 have zx':Rz 1500 x:=⟨zx.p.up (by omega),zx.r.up (by omega)⟩
 have zy':Rz 1500 y:=⟨zy.p.up (by omega),zy.r.up (by omega)⟩
 by_cases hs:x.a=y.a∧x.s=y.s
 · rw [show Sg.cmpX x y=Sg.sgq (x.p-y.p) from by unfold Sg.cmpX;rw [if_pos hs]]
   obtain ⟨rfl,rfl,rfl⟩:=hy.r.inj (by rw [←hs.1];exact hx.r)
   obtain rfl:s2=s1:=by rw [hy.neg,hx.neg,hs.2]
   exact cmp_same hx.p hy.p zx'.p zy'.p w hE
 · by_cases hy0:y.a=0
   · have ey : y = Sg.Rl.of y.p := by
      rcases Sg.ok_cases oky with ⟨_,e⟩ | ⟨e,_⟩
      · exact Sg.Rl.ext' rfl hy0 e
      · grind
     have hx0:¬x.a=0:=fun h=>by
      refine hs ⟨by rw [h,hy0],?_⟩
      rcases Sg.ok_cases okx with ⟨_,e⟩ | ⟨e,_⟩
      · rcases Sg.ok_cases oky with ⟨_,e'⟩ | ⟨e',_⟩
        · rw [e,e']
        · grind
      · grind
     obtain ⟨rfl,rfl,rfl⟩:=hy.r.nought.1 hy0
     obtain rfl:=ok_false hx (ok_pos okx hx0)
     obtain rfl:s2=false:=by rw [hy.neg,ey];rfl
     have h:=cmp_yrat hx hy okx hx0 zx' zy' w hE
     rw [←ey] at h
     exact h
   · by_cases hx0:x.a=0
     · have ex : x = Sg.Rl.of x.p := by
        rcases Sg.ok_cases okx with ⟨_,e⟩ | ⟨e,_⟩
        · exact Sg.Rl.ext' rfl hx0 e
        · grind
       obtain ⟨rfl,rfl,rfl⟩:=hx.r.nought.1 hx0
       obtain rfl:=ok_false hy (ok_pos oky hy0)
       obtain rfl:s1=false:=by rw [hx.neg,ex];rfl
       have h:=cmp_xrat hx hy oky hy0 zx' zy' w hE
       rw [←ex,Sg.cmp_anti okx oky,Int.neg_neg] at h
       exact h
     · obtain rfl:=ok_false hx (ok_pos okx hx0)
       obtain rfl:=ok_false hy (ok_pos oky hy0)
       have h:=cmp_irr hx hy okx oky hx0 hy0 zx zy (by
        by_cases h1:n1=n2
        · subst h1
          by_cases h2:l1=l2
          · subst h2
            refine .inr (.inr ⟨rfl,rfl,?_⟩)
            have ha:x.a=y.a:=hx.r.eq_of hy.r
            rw [hx.neg,hy.neg]
            have hn:¬x.s=y.s:=fun e=>hs ⟨ha,e⟩
            rcases okx.sg with e | e<;>rcases oky.sg with e' | e'<;>rw [e,e'] at hn ⊢<;>first | (exact absurd rfl hn) | decide
          · exact .inr (.inl ⟨rfl,h2⟩)
        · exact .inl h1) w hE
       rw [show Sg.cmpX x y=Sg.cmpP (x.p-y.p) x.s x.a y.s y.a from by unfold Sg.cmpX;rw [if_neg hs,if_neg hy0,if_neg hx0]]
       exact h

end Go.Proofs.YtpnokfgplnmjpaaGreatDoor


namespace Go.Proofs.YtpnokfgplnmjpaaGreatDoor
open Go.RowKit
attribute [local go_sem ↓] Go.wp_at_zero Go.wp_at_succ

def Sg.Rl.nm (x:Sg.Rl):Rat:=x.p*x.p-x.a
noncomputable def Sg.Rl.iv (x:Sg.Rl):Sg.Rl:=Sg.mkR (x.p / x.nm) (((-x.s:Int):Rat) / x.nm) x.a
theorem pm_le {s:Int} (hs:s=1∨s=-1):s.natAbs≤255∧(-s).natAbs≤255:=by rcases hs with rfl | rfl<;>decide
end Go.Proofs.YtpnokfgplnmjpaaGreatDoor


namespace Go.Proofs.YtpnokfgplnmjpaaGreatDoor
open Go.RowKit
attribute [local go_sem ↓] Go.wp_at_zero Go.wp_at_succ

end Go.Proofs.YtpnokfgplnmjpaaGreatDoor


namespace Go.Proofs.YtpnokfgplnmjpaaGreatDoor
open Go.RowKit
attribute [local go_sem ↓] Go.wp_at_zero Go.wp_at_succ

theorem Sb.find {w W:World} {l:List (Nat×Array Value×TypeId)} {rs:List (Option Addr×Nat×Nat×Nat)} {g:Nat} {cs:Array Value} {T:TypeId} (h:Sb w l rs W) {i:Nat} (hl:At l i (g,cs,T)):w.heap.size≤g∧W.heap[g]?=some (.cells cs T (0,0)) :=
 ⟨h.lo (g,cs,T) (List.mem_of_getElem? hl.get),h.k (g,cs,T) (List.mem_of_getElem? hl.get)⟩
def RetLz (w:World) (cs:Array Value) (T:TypeId) (n:Nat) (e:Ending) (w':World):Prop:=∃ g,e=.returned (.slice (some ⟨g,0,none⟩) n n)∧w.heap.size≤g∧w'.heap[g]?=some (.cells cs T (0,0))∧Below w.heap.size w w'

set_option maxHeartbeats 8000000 in
set_option maxRecDepth 100000 in
theorem roots_zero (w:World)   :
  Calls Tryz.prog 31 #[.agg #[.bool false,.string ⟨#[]⟩,.bool false,.string ⟨#[]⟩,.bool false,.string ⟨#[]⟩,.bool false,.string ⟨#[]⟩,.bool false,.string ⟨#[]⟩,.bool false,.string ⟨#[]⟩]] w (RetB w (.tuple #[.slice none 0 0,.int .i64 6])):=by
 have RS:=Lib.hid Tryz.results31
 go_enter Tryz.func31,Tryz.ntmps31
 exact wk0

set_option maxHeartbeats 8000000 in
set_option maxRecDepth 100000 in
theorem roots_const (w:World) {b1:Bool} {m1 k1:ByteArray} (hn:m1≠⟨#[]⟩)  :
  Calls Tryz.prog 31 #[.agg #[.bool b1,.string m1,.bool false,.string k1,.bool false,.string ⟨#[]⟩,.bool false,.string ⟨#[]⟩,.bool false,.string ⟨#[]⟩,.bool false,.string ⟨#[]⟩]] w (RetB w (.tuple #[.slice none 0 0,.int .i64 0])):=by
 obtain ⟨e1,e2⟩:=str_ne hn
 have e3:=empty_no (size_pos hn)
 clear hn
 cases b1
 all_goals
  have RS:=Lib.hid Tryz.results31
  go_enter Tryz.func31,Tryz.ntmps31
  exact wk0

set_option maxHeartbeats 8000000 in
set_option maxRecDepth 100000 in
theorem roots_lin (w:World) {b1 b2 b3 b4:Bool} {m1 k1 m2 k2 m3 k3 m4 k4:ByteArray} (hn:m2≠⟨#[]⟩) (HN:∀ V,Below w.heap.size w V→Calls Tryz.prog 80 #[.agg #[.bool b1,.string m1,.bool false,.string k1]] V (RetB V (.agg #[.bool b3,.string m3,.bool false,.string k3]))) (HR:∀ V,Below w.heap.size w V→Calls Tryz.prog 79 #[.agg #[.bool b3,.string m3,.bool false,.string k3],.agg #[.bool b2,.string m2,.bool false,.string k2]] V (RetB V (.agg #[.bool b4,.string m4,.bool false,.string k4]))) (HF:∀ V,Below w.heap.size w V→Calls Tryz.prog 25 #[.agg #[.bool b4,.string m4,.bool false,.string k4]] V (RetB V (.agg #[.bool b4,.string m4,.bool false,.string k4,.bool false,.string ⟨#[]⟩,.bool false,.string ⟨#[]⟩,.bool false]))) :
  Calls Tryz.prog 31 #[.agg #[.bool b1,.string m1,.bool false,.string k1,.bool b2,.string m2,.bool false,.string k2,.bool false,.string ⟨#[]⟩,.bool false,.string ⟨#[]⟩]] w (RetLs w #[.bool b4,.string m4,.bool false,.string k4,.bool false,.string ⟨#[]⟩,.bool false,.string ⟨#[]⟩,.bool false] 27 1):=by
 obtain ⟨e1,e2⟩:=str_ne hn
 have e3:=empty_no (size_pos hn)
 clear hn
 have C1:=Lib.hid HN
 have C2:=Lib.hid HR
 have C3:=Lib.hid HF
 cases b2
 all_goals
  have E1:Hid (∀ {p:Prop} (h:p:=by exact bodyPost_ret (v:=.tuple #[.slice (some ⟨_,0,none⟩) 1 1,.int .i64 0]) (by simp [results,Tryz.results31,go_sem]<;>rfl) rfl ⟨_,rfl,(X.out.find (by repeat (with_reducible first | exact At.here | exact At.last | apply At.there | apply At.left))).1,(X.out.find (by repeat (with_reducible first | exact At.here | exact At.last | apply At.there | apply At.left))).2,X.out.bel⟩),p):=@fun _ h=>h
  clear HN HR HF 
  go_enter Tryz.func31,Tryz.ntmps31
  go_upto_region 1 with fail
  refine gs1 (M:=fun W=>Code.wp _ _ _ _ W) (fun V X0=>?_)
  have X:=Lib.hid X0
  clear X0
  have F:=X.out.facts
  simp only [Facts,cellsAt,List.take_succ_cons,List.take_zero,Nat.reduceAdd,and_true,List.set_cons_succ,List.set_cons_zero,List.cons_append,List.nil_append] at F
  go_upto_region 2 with fail
  refine an X.out (fun V X0=>?_)
  replace X:=Lib.hid X0
  clear X0
  replace F:=X.out.facts
  simp only [Facts,cellsAt,List.take_succ_cons,List.take_zero,Nat.reduceAdd,and_true,List.set_cons_succ,List.set_cons_zero,List.cons_append,List.nil_append] at F
  obtain ⟨LL,hLL⟩:=lexi X.out
  go_cut [9] (fun s9 wx=>s9=.bool false∧Sb w LL [] wx)
  case first =>
   go_wp2_with fail
   all_goals (go_meet;subst hLL;exact ⟨rfl,X.out⟩)
  obtain ⟨rfl,hX⟩:=hcut
  subst hLL
  replace X:=Lib.hid hX
  clear hX
  replace F:=X.out.facts
  simp only [Facts,cellsAt,List.take_succ_cons,List.take_zero,Nat.reduceAdd,and_true,List.set_cons_succ,List.set_cons_zero,List.cons_append,List.nil_append] at F
  exact wk

set_option maxHeartbeats 8000000 in
set_option maxRecDepth 100000 in
theorem roots_neg (w:World) {b1 b2 b3 b4 b5 b6 b7 b8 b9:Bool} {m1 k1 m2 k2 m3 k3 m4 k4 m5 k5 m6 k6 m7 k7 m8 k8 m9 k9:ByteArray} (hn:m3≠⟨#[]⟩) (HN:∀ V,Below w.heap.size w V→Calls Tryz.prog 80 #[.agg #[.bool b2,.string m2,.bool false,.string k2]] V (RetB V (.agg #[.bool b4,.string m4,.bool false,.string k4]))) (HW:∀ V,Below w.heap.size w V→Calls Tryz.prog 73 #[.int .i64 (2)] V (RetB V (.agg #[.bool false,.string ⟨#[2]⟩,.bool false,.string ⟨#[]⟩]))) (HM:∀ V,Below w.heap.size w V→Calls Tryz.prog 75 #[.agg #[.bool false,.string ⟨#[2]⟩,.bool false,.string ⟨#[]⟩],.agg #[.bool b3,.string m3,.bool false,.string k3]] V (RetB V (.agg #[.bool b5,.string m5,.bool false,.string k5]))) (HR:∀ V,Below w.heap.size w V→Calls Tryz.prog 79 #[.agg #[.bool b4,.string m4,.bool false,.string k4],.agg #[.bool b5,.string m5,.bool false,.string k5]] V (RetB V (.agg #[.bool b6,.string m6,.bool false,.string k6]))) (HC:∀ V,Below w.heap.size w V→Calls Tryz.prog 79 #[.agg #[.bool b1,.string m1,.bool false,.string k1],.agg #[.bool b3,.string m3,.bool false,.string k3]] V (RetB V (.agg #[.bool b7,.string m7,.bool false,.string k7]))) (HP:∀ V,Below w.heap.size w V→Calls Tryz.prog 75 #[.agg #[.bool b6,.string m6,.bool false,.string k6],.agg #[.bool b6,.string m6,.bool false,.string k6]] V (RetB V (.agg #[.bool b8,.string m8,.bool false,.string k8]))) (HS:∀ V,Below w.heap.size w V→Calls Tryz.prog 81 #[.agg #[.bool b8,.string m8,.bool false,.string k8],.agg #[.bool b7,.string m7,.bool false,.string k7]] V (RetB V (.agg #[.bool b9,.string m9,.bool false,.string k9]))) (HG:∀ V,Below w.heap.size w V→Calls Tryz.prog 71 #[.agg #[.bool b9,.string m9,.bool false,.string k9]] V (RetB V (.int .i64 (-1)))) :
  Calls Tryz.prog 31 #[.agg #[.bool b1,.string m1,.bool false,.string k1,.bool b2,.string m2,.bool false,.string k2,.bool b3,.string m3,.bool false,.string k3]] w (RetB w (.tuple #[.slice none 0 0,.int .i64 0])):=by
 obtain ⟨e1,e2⟩:=str_ne hn
 have e3:=empty_no (size_pos hn)
 clear hn
 have C1:=Lib.hid HN
 have C2:=Lib.hid HW
 have C3:=Lib.hid HM
 have C4:=Lib.hid HR
 have C5:=Lib.hid HC
 have C6:=Lib.hid HP
 have C7:=Lib.hid HS
 have C8:=Lib.hid HG
 cases b3
 all_goals
  have U1:Hid (∀ {p:Prop} (h:p:=by ((fail_if_success (go_not_at_region 8));(fail_if_success (have:=hLL));obtain ⟨LL,hLL⟩:=lexi X.out;go_cut [5] (fun s0 wx=>∃ g0,s0=.pointer (some ⟨g0,0,none⟩)∧Sb w (LL++[(g0,#[.bool b6,.string m6,.bool false,.string k6],25)]) [] wx);all_goals exact wkc)),p):=@fun _ h=>h
  have U2:Hid (∀ {p:Prop} (h:p:=by ((fail_if_success (go_not_at_region 10));(fail_if_success (have:=hLL));obtain ⟨LL,hLL⟩:=lexi X.out;go_cut [7] (fun s0 wx=>∃ g0,s0=.pointer (some ⟨g0,0,none⟩)∧Sb w (LL++[(g0,#[.bool b9,.string m9,.bool false,.string k9],25)]) [] wx);all_goals exact wkc)),p):=@fun _ h=>h
  have RS:=Lib.hid Tryz.results31
  clear HN HW HM HR HC HP HS HG 
  go_enter Tryz.func31,Tryz.ntmps31
  go_upto_region 1 with fail
  refine gs1 (M:=fun W=>Code.wp _ _ _ _ W) (fun V X0=>?_)
  have X:=Lib.hid X0
  clear X0
  have F:=X.out.facts
  simp only [Facts,cellsAt,List.take_succ_cons,List.take_zero,Nat.reduceAdd,and_true,List.set_cons_succ,List.set_cons_zero,List.cons_append,List.nil_append] at F
  go_upto_region 2 with fail
  refine an X.out (fun V X0=>?_)
  replace X:=Lib.hid X0
  clear X0
  replace F:=X.out.facts
  simp only [Facts,cellsAt,List.take_succ_cons,List.take_zero,Nat.reduceAdd,and_true,List.set_cons_succ,List.set_cons_zero,List.cons_append,List.nil_append] at F
  obtain ⟨LL,hLL⟩:=lexi X.out
  go_cut [9] (fun s9 wx=>s9=.bool false∧Sb w LL [] wx)
  case first =>
   go_wp2_with fail
   all_goals (go_meet;subst hLL;exact ⟨rfl,X.out⟩)
  obtain ⟨rfl,hX⟩:=hcut
  subst hLL
  replace X:=Lib.hid hX
  clear hX
  replace F:=X.out.facts
  simp only [Facts,cellsAt,List.take_succ_cons,List.take_zero,Nat.reduceAdd,and_true,List.set_cons_succ,List.set_cons_zero,List.cons_append,List.nil_append] at F
  exact wk

set_option maxHeartbeats 8000000 in
set_option maxRecDepth 100000 in
theorem roots_dbl (w:World) {b1 b2 b3 b4 b5 b6 b7 b8 b9:Bool} {m1 k1 m2 k2 m3 k3 m4 k4 m5 k5 m6 k6 m7 k7 m8 k8 m9 k9:ByteArray} (hn:m3≠⟨#[]⟩) (HN:∀ V,Below w.heap.size w V→Calls Tryz.prog 80 #[.agg #[.bool b2,.string m2,.bool false,.string k2]] V (RetB V (.agg #[.bool b4,.string m4,.bool false,.string k4]))) (HW:∀ V,Below w.heap.size w V→Calls Tryz.prog 73 #[.int .i64 (2)] V (RetB V (.agg #[.bool false,.string ⟨#[2]⟩,.bool false,.string ⟨#[]⟩]))) (HM:∀ V,Below w.heap.size w V→Calls Tryz.prog 75 #[.agg #[.bool false,.string ⟨#[2]⟩,.bool false,.string ⟨#[]⟩],.agg #[.bool b3,.string m3,.bool false,.string k3]] V (RetB V (.agg #[.bool b5,.string m5,.bool false,.string k5]))) (HR:∀ V,Below w.heap.size w V→Calls Tryz.prog 79 #[.agg #[.bool b4,.string m4,.bool false,.string k4],.agg #[.bool b5,.string m5,.bool false,.string k5]] V (RetB V (.agg #[.bool b6,.string m6,.bool false,.string k6]))) (HC:∀ V,Below w.heap.size w V→Calls Tryz.prog 79 #[.agg #[.bool b1,.string m1,.bool false,.string k1],.agg #[.bool b3,.string m3,.bool false,.string k3]] V (RetB V (.agg #[.bool b7,.string m7,.bool false,.string k7]))) (HP:∀ V,Below w.heap.size w V→Calls Tryz.prog 75 #[.agg #[.bool b6,.string m6,.bool false,.string k6],.agg #[.bool b6,.string m6,.bool false,.string k6]] V (RetB V (.agg #[.bool b8,.string m8,.bool false,.string k8]))) (HS:∀ V,Below w.heap.size w V→Calls Tryz.prog 81 #[.agg #[.bool b8,.string m8,.bool false,.string k8],.agg #[.bool b7,.string m7,.bool false,.string k7]] V (RetB V (.agg #[.bool b9,.string m9,.bool false,.string k9]))) (HG:∀ V,Below w.heap.size w V→Calls Tryz.prog 71 #[.agg #[.bool b9,.string m9,.bool false,.string k9]] V (RetB V (.int .i64 (0)))) (HF:∀ V,Below w.heap.size w V→Calls Tryz.prog 25 #[.agg #[.bool b6,.string m6,.bool false,.string k6]] V (RetB V (.agg #[.bool b6,.string m6,.bool false,.string k6,.bool false,.string ⟨#[]⟩,.bool false,.string ⟨#[]⟩,.bool false]))) :
  Calls Tryz.prog 31 #[.agg #[.bool b1,.string m1,.bool false,.string k1,.bool b2,.string m2,.bool false,.string k2,.bool b3,.string m3,.bool false,.string k3]] w (RetLs w #[.bool b6,.string m6,.bool false,.string k6,.bool false,.string ⟨#[]⟩,.bool false,.string ⟨#[]⟩,.bool false] 27 1):=by
 obtain ⟨e1,e2⟩:=str_ne hn
 have e3:=empty_no (size_pos hn)
 clear hn
 have C1:=Lib.hid HN
 have C2:=Lib.hid HW
 have C3:=Lib.hid HM
 have C4:=Lib.hid HR
 have C5:=Lib.hid HC
 have C6:=Lib.hid HP
 have C7:=Lib.hid HS
 have C8:=Lib.hid HG
 have C9:=Lib.hid HF
 cases b3
 all_goals
  have U1:Hid (∀ {p:Prop} (h:p:=by ((fail_if_success (go_not_at_region 8));(fail_if_success (have:=hLL));obtain ⟨LL,hLL⟩:=lexi X.out;go_cut [5] (fun s0 wx=>∃ g0,s0=.pointer (some ⟨g0,0,none⟩)∧Sb w (LL++[(g0,#[.bool b6,.string m6,.bool false,.string k6],25)]) [] wx);all_goals exact wkc)),p):=@fun _ h=>h
  have U2:Hid (∀ {p:Prop} (h:p:=by ((fail_if_success (go_not_at_region 10));(fail_if_success (have:=hLL));obtain ⟨LL,hLL⟩:=lexi X.out;go_cut [7] (fun s0 wx=>∃ g0,s0=.pointer (some ⟨g0,0,none⟩)∧Sb w (LL++[(g0,#[.bool b9,.string m9,.bool false,.string k9],25)]) [] wx);all_goals exact wkc)),p):=@fun _ h=>h
  have E1:Hid (∀ {p:Prop} (h:p:=by exact bodyPost_ret (v:=.tuple #[.slice (some ⟨_,0,none⟩) 1 1,.int .i64 0]) (by simp [results,Tryz.results31,go_sem]<;>rfl) rfl ⟨_,rfl,(X.out.find (by repeat (with_reducible first | exact At.here | exact At.last | apply At.there | apply At.left))).1,(X.out.find (by repeat (with_reducible first | exact At.here | exact At.last | apply At.there | apply At.left))).2,X.out.bel⟩),p):=@fun _ h=>h
  clear HN HW HM HR HC HP HS HG HF 
  go_enter Tryz.func31,Tryz.ntmps31
  go_upto_region 1 with fail
  refine gs1 (M:=fun W=>Code.wp _ _ _ _ W) (fun V X0=>?_)
  have X:=Lib.hid X0
  clear X0
  have F:=X.out.facts
  simp only [Facts,cellsAt,List.take_succ_cons,List.take_zero,Nat.reduceAdd,and_true,List.set_cons_succ,List.set_cons_zero,List.cons_append,List.nil_append] at F
  go_upto_region 2 with fail
  refine an X.out (fun V X0=>?_)
  replace X:=Lib.hid X0
  clear X0
  replace F:=X.out.facts
  simp only [Facts,cellsAt,List.take_succ_cons,List.take_zero,Nat.reduceAdd,and_true,List.set_cons_succ,List.set_cons_zero,List.cons_append,List.nil_append] at F
  obtain ⟨LL,hLL⟩:=lexi X.out
  go_cut [9] (fun s9 wx=>s9=.bool false∧Sb w LL [] wx)
  case first =>
   go_wp2_with fail
   all_goals (go_meet;subst hLL;exact ⟨rfl,X.out⟩)
  obtain ⟨rfl,hX⟩:=hcut
  subst hLL
  replace X:=Lib.hid hX
  clear hX
  replace F:=X.out.facts
  simp only [Facts,cellsAt,List.take_succ_cons,List.take_zero,Nat.reduceAdd,and_true,List.set_cons_succ,List.set_cons_zero,List.cons_append,List.nil_append] at F
  exact wk

set_option maxHeartbeats 8000000 in
set_option maxRecDepth 100000 in
theorem froots_const (w:World) {b1:Bool} {m1 k1:ByteArray} (HZ:∀ V,Below w.heap.size w V→Calls Tryz.prog 24 #[] V (RetB V (.agg #[.bool false,.string ⟨#[]⟩,.bool false,.string ⟨#[]⟩]))) :
  Calls Tryz.prog 32 #[.agg #[.bool b1,.string m1,.bool false,.string k1,.bool false,.string ⟨#[]⟩,.bool false,.string ⟨#[]⟩,.bool false,.string ⟨#[]⟩,.bool false,.string ⟨#[]⟩]] w (RetB w (.slice none 0 0)):=by
 have C1:=Lib.hid HZ
 clear HZ 
 go_enter Tryz.func32,Tryz.ntmps32
 exact wk0

set_option maxHeartbeats 8000000 in
set_option maxRecDepth 100000 in
theorem froots_lin (w:World) {b1 b2 b3 b4:Bool} {m1 k1 m2 k2 m3 k3 m4 k4:ByteArray} (hn:m2≠⟨#[]⟩) (HZ:∀ V,Below w.heap.size w V→Calls Tryz.prog 24 #[] V (RetB V (.agg #[.bool false,.string ⟨#[]⟩,.bool false,.string ⟨#[]⟩]))) (HD:∀ V,Below w.heap.size w V→Calls Tryz.prog 82 #[.agg #[.bool b1,.string m1,.bool false,.string k1],.agg #[.bool b2,.string m2,.bool false,.string k2]] V (RetB V (.agg #[.bool b3,.string m3,.bool false,.string k3]))) (HN:∀ V,Below w.heap.size w V→Calls Tryz.prog 49 #[.agg #[.bool b3,.string m3,.bool false,.string k3]] V (RetB V (.agg #[.bool b4,.string m4,.bool false,.string k4]))) :
  Calls Tryz.prog 32 #[.agg #[.bool b1,.string m1,.bool false,.string k1,.bool b2,.string m2,.bool false,.string k2,.bool false,.string ⟨#[]⟩,.bool false,.string ⟨#[]⟩]] w (RetLz w #[.bool b4,.string m4,.bool false,.string k4,.bool false,.string ⟨#[]⟩,.bool false,.string ⟨#[]⟩,.bool false] 27 1):=by
 obtain ⟨e1,e2⟩:=str_ne hn
 have e3:=empty_no (size_pos hn)
 clear hn
 have C1:=Lib.hid HZ
 have C2:=Lib.hid HD
 have C3:=Lib.hid HN
 cases b2
 all_goals
  have E1:Hid (∀ {p:Prop} (h:p:=by exact bodyPost_ret (v:=.slice (some ⟨_,0,none⟩) 1 1) (by simp [results,Tryz.results32,go_sem]<;>rfl) rfl ⟨_,rfl,(X.out.find (by repeat (with_reducible first | exact At.here | exact At.last | apply At.there | apply At.left))).1,(X.out.find (by repeat (with_reducible first | exact At.here | exact At.last | apply At.there | apply At.left))).2,X.out.bel⟩),p):=@fun _ h=>h
  clear HZ HD HN 
  go_enter Tryz.func32,Tryz.ntmps32
  exact wk0

set_option maxHeartbeats 8000000 in
set_option maxRecDepth 100000 in
theorem froots_neg (w:World) {b1 b2 b3 b5 b6 b7 b8 b9:Bool} {m1 k1 m2 k2 m3 k3 m5 k5 m6 k6 m7 k7 m8 k8 m9 k9:ByteArray} {bt:Bool} {mt:ByteArray} (hn:m3≠⟨#[]⟩) (HZ:∀ V,Below w.heap.size w V→Calls Tryz.prog 24 #[] V (RetB V (.agg #[.bool false,.string ⟨#[]⟩,.bool false,.string ⟨#[]⟩]))) (HW:∀ V,Below w.heap.size w V→Calls Tryz.prog 21 #[.int .i64 (-2)] V (RetB V (.agg #[.bool bt,.string mt,.bool false,.string ⟨#[]⟩]))) (HM:∀ V,Below w.heap.size w V→Calls Tryz.prog 78 #[.agg #[.bool bt,.string mt,.bool false,.string ⟨#[]⟩],.agg #[.bool b3,.string m3,.bool false,.string k3]] V (RetB V (.agg #[.bool b5,.string m5,.bool false,.string k5]))) (HR:∀ V,Below w.heap.size w V→Calls Tryz.prog 82 #[.agg #[.bool b2,.string m2,.bool false,.string k2],.agg #[.bool b5,.string m5,.bool false,.string k5]] V (RetB V (.agg #[.bool b6,.string m6,.bool false,.string k6]))) (HP:∀ V,Below w.heap.size w V→Calls Tryz.prog 78 #[.agg #[.bool b6,.string m6,.bool false,.string k6],.agg #[.bool b6,.string m6,.bool false,.string k6]] V (RetB V (.agg #[.bool b8,.string m8,.bool false,.string k8]))) (HC:∀ V,Below w.heap.size w V→Calls Tryz.prog 82 #[.agg #[.bool b1,.string m1,.bool false,.string k1],.agg #[.bool b3,.string m3,.bool false,.string k3]] V (RetB V (.agg #[.bool b7,.string m7,.bool false,.string k7]))) (HS:∀ V,Below w.heap.size w V→Calls Tryz.prog 83 #[.agg #[.bool b8,.string m8,.bool false,.string k8],.agg #[.bool b7,.string m7,.bool false,.string k7]] V (RetB V (.agg #[.bool b9,.string m9,.bool false,.string k9]))) (HG:∀ V,Below w.heap.size w V→Calls Tryz.prog 28 #[.agg #[.bool b9,.string m9,.bool false,.string k9]] V (RetB V (.int .i64 (-1)))) :
  Calls Tryz.prog 32 #[.agg #[.bool b1,.string m1,.bool false,.string k1,.bool b2,.string m2,.bool false,.string k2,.bool b3,.string m3,.bool false,.string k3]] w (RetB w (.slice none 0 0)):=by
 obtain ⟨e1,e2⟩:=str_ne hn
 have e3:=empty_no (size_pos hn)
 clear hn
 have C1:=Lib.hid HZ
 have C2:=Lib.hid HW
 have C3:=Lib.hid HM
 have C4:=Lib.hid HR
 have C5:=Lib.hid HP
 have C6:=Lib.hid HC
 have C7:=Lib.hid HS
 have C8:=Lib.hid HG
 cases b3
 all_goals
  have U1:Hid (∀ {p:Prop} (h:p:=by ((fail_if_success (go_not_at_region 5));(fail_if_success (have:=hLL));obtain ⟨LL,hLL⟩:=lexi X.out;go_cut [3] (fun s0 wx=>∃ g0,s0=.pointer (some ⟨g0,0,none⟩)∧Sb w (LL++[(g0,#[.bool b6,.string m6,.bool false,.string k6],25)]) [] wx);all_goals exact wkc)),p):=@fun _ h=>h
  have U2:Hid (∀ {p:Prop} (h:p:=by ((fail_if_success (go_not_at_region 6));(fail_if_success (have:=hLL));obtain ⟨LL,hLL⟩:=lexi X.out;go_cut [4] (fun s0 wx=>∃ g0,s0=.pointer (some ⟨g0,0,none⟩)∧Sb w (LL++[(g0,#[.bool b9,.string m9,.bool false,.string k9],25)]) [] wx);all_goals exact wkc)),p):=@fun _ h=>h
  clear HZ HW HM HR HP HC HS HG 
  go_enter Tryz.func32,Tryz.ntmps32
  exact wk0

set_option maxHeartbeats 8000000 in
set_option maxRecDepth 100000 in
theorem froots_dbl (w:World) {b1 b2 b3 b5 b6 b7 b8 b9:Bool} {m1 k1 m2 k2 m3 k3 m5 k5 m6 k6 m7 k7 m8 k8 m9 k9:ByteArray} {bt:Bool} {mt:ByteArray} (hn:m3≠⟨#[]⟩) (HZ:∀ V,Below w.heap.size w V→Calls Tryz.prog 24 #[] V (RetB V (.agg #[.bool false,.string ⟨#[]⟩,.bool false,.string ⟨#[]⟩]))) (HW:∀ V,Below w.heap.size w V→Calls Tryz.prog 21 #[.int .i64 (-2)] V (RetB V (.agg #[.bool bt,.string mt,.bool false,.string ⟨#[]⟩]))) (HM:∀ V,Below w.heap.size w V→Calls Tryz.prog 78 #[.agg #[.bool bt,.string mt,.bool false,.string ⟨#[]⟩],.agg #[.bool b3,.string m3,.bool false,.string k3]] V (RetB V (.agg #[.bool b5,.string m5,.bool false,.string k5]))) (HR:∀ V,Below w.heap.size w V→Calls Tryz.prog 82 #[.agg #[.bool b2,.string m2,.bool false,.string k2],.agg #[.bool b5,.string m5,.bool false,.string k5]] V (RetB V (.agg #[.bool b6,.string m6,.bool false,.string k6]))) (HP:∀ V,Below w.heap.size w V→Calls Tryz.prog 78 #[.agg #[.bool b6,.string m6,.bool false,.string k6],.agg #[.bool b6,.string m6,.bool false,.string k6]] V (RetB V (.agg #[.bool b8,.string m8,.bool false,.string k8]))) (HC:∀ V,Below w.heap.size w V→Calls Tryz.prog 82 #[.agg #[.bool b1,.string m1,.bool false,.string k1],.agg #[.bool b3,.string m3,.bool false,.string k3]] V (RetB V (.agg #[.bool b7,.string m7,.bool false,.string k7]))) (HS:∀ V,Below w.heap.size w V→Calls Tryz.prog 83 #[.agg #[.bool b8,.string m8,.bool false,.string k8],.agg #[.bool b7,.string m7,.bool false,.string k7]] V (RetB V (.agg #[.bool false,.string ⟨#[]⟩,.bool false,.string ⟨#[]⟩]))) (HG:∀ V,Below w.heap.size w V→Calls Tryz.prog 28 #[.agg #[.bool false,.string ⟨#[]⟩,.bool false,.string ⟨#[]⟩]] V (RetB V (.int .i64 (0)))) :
  Calls Tryz.prog 32 #[.agg #[.bool b1,.string m1,.bool false,.string k1,.bool b2,.string m2,.bool false,.string k2,.bool b3,.string m3,.bool false,.string k3]] w (RetLz w #[.bool b6,.string m6,.bool false,.string k6,.bool false,.string ⟨#[]⟩,.bool false,.string ⟨#[]⟩,.bool false] 27 1):=by
 obtain ⟨e1,e2⟩:=str_ne hn
 have e3:=empty_no (size_pos hn)
 clear hn
 have C1:=Lib.hid HZ
 have C2:=Lib.hid HW
 have C3:=Lib.hid HM
 have C4:=Lib.hid HR
 have C5:=Lib.hid HP
 have C6:=Lib.hid HC
 have C7:=Lib.hid HS
 have C8:=Lib.hid HG
 cases b3
 all_goals
  have U1:Hid (∀ {p:Prop} (h:p:=by ((fail_if_success (go_not_at_region 5));(fail_if_success (have:=hLL));obtain ⟨LL,hLL⟩:=lexi X.out;go_cut [3] (fun s0 wx=>∃ g0,s0=.pointer (some ⟨g0,0,none⟩)∧Sb w (LL++[(g0,#[.bool b6,.string m6,.bool false,.string k6],25)]) [] wx);all_goals exact wkc)),p):=@fun _ h=>h
  have U2:Hid (∀ {p:Prop} (h:p:=by ((fail_if_success (go_not_at_region 6));(fail_if_success (have:=hLL));obtain ⟨LL,hLL⟩:=lexi X.out;go_cut [4] (fun s0 wx=>∃ g0,s0=.pointer (some ⟨g0,0,none⟩)∧Sb w (LL++[(g0,#[.bool false,.string ⟨#[]⟩,.bool false,.string ⟨#[]⟩],25)]) [] wx);all_goals exact wkc)),p):=@fun _ h=>h
  have E1:Hid (∀ {p:Prop} (h:p:=by exact bodyPost_ret (v:=.slice (some ⟨_,0,none⟩) 1 1) (by simp [results,Tryz.results32,go_sem]<;>rfl) rfl ⟨_,rfl,(X.out.find (by repeat (with_reducible first | exact At.here | exact At.last | apply At.there | apply At.left))).1,(X.out.find (by repeat (with_reducible first | exact At.here | exact At.last | apply At.there | apply At.left))).2,X.out.bel⟩),p):=@fun _ h=>h
  clear HZ HW HM HR HP HC HS HG 
  go_enter Tryz.func32,Tryz.ntmps32
  exact wk0

set_option maxHeartbeats 8000000 in
set_option maxRecDepth 100000 in
theorem froots_two (w:World) {b10 c10 s10:Bool} {m10 k10 n10 l10:ByteArray} {b11 c11 s11:Bool} {m11 k11 n11 l11:ByteArray} {bu:Bool} {mu:ByteArray} {b1 b2 b3 b5 b6 b7 b8 b9:Bool} {m1 k1 m2 k2 m3 k3 m5 k5 m6 k6 m7 k7 m8 k8 m9 k9:ByteArray} {bt:Bool} {mt:ByteArray} (hn:m3≠⟨#[]⟩) (h9:m9≠⟨#[]⟩) (HZ:∀ V,Below w.heap.size w V→Calls Tryz.prog 24 #[] V (RetB V (.agg #[.bool false,.string ⟨#[]⟩,.bool false,.string ⟨#[]⟩]))) (HW:∀ V,Below w.heap.size w V→Calls Tryz.prog 21 #[.int .i64 (-2)] V (RetB V (.agg #[.bool bt,.string mt,.bool false,.string ⟨#[]⟩]))) (HM:∀ V,Below w.heap.size w V→Calls Tryz.prog 78 #[.agg #[.bool bt,.string mt,.bool false,.string ⟨#[]⟩],.agg #[.bool b3,.string m3,.bool false,.string k3]] V (RetB V (.agg #[.bool b5,.string m5,.bool false,.string k5]))) (HR:∀ V,Below w.heap.size w V→Calls Tryz.prog 82 #[.agg #[.bool b2,.string m2,.bool false,.string k2],.agg #[.bool b5,.string m5,.bool false,.string k5]] V (RetB V (.agg #[.bool b6,.string m6,.bool false,.string k6]))) (HP:∀ V,Below w.heap.size w V→Calls Tryz.prog 78 #[.agg #[.bool b6,.string m6,.bool false,.string k6],.agg #[.bool b6,.string m6,.bool false,.string k6]] V (RetB V (.agg #[.bool b8,.string m8,.bool false,.string k8]))) (HC:∀ V,Below w.heap.size w V→Calls Tryz.prog 82 #[.agg #[.bool b1,.string m1,.bool false,.string k1],.agg #[.bool b3,.string m3,.bool false,.string k3]] V (RetB V (.agg #[.bool b7,.string m7,.bool false,.string k7]))) (HS:∀ V,Below w.heap.size w V→Calls Tryz.prog 83 #[.agg #[.bool b8,.string m8,.bool false,.string k8],.agg #[.bool b7,.string m7,.bool false,.string k7]] V (RetB V (.agg #[.bool b9,.string m9,.bool false,.string k9]))) (HG:∀ V,Below w.heap.size w V→Calls Tryz.prog 28 #[.agg #[.bool b9,.string m9,.bool false,.string k9]] V (RetB V (.int .i64 (1)))) (HW1:∀ V,Below w.heap.size w V→Calls Tryz.prog 21 #[.int .i64 (-1)] V (RetB V (.agg #[.bool bu,.string mu,.bool false,.string ⟨#[]⟩]))) (HA:∀ V,Below w.heap.size w V→Calls Tryz.prog 29 #[.agg #[.bool b6,.string m6,.bool false,.string k6],.agg #[.bool bu,.string mu,.bool false,.string ⟨#[]⟩],.agg #[.bool b9,.string m9,.bool false,.string k9]] V (RetB V (.agg #[.bool b10,.string m10,.bool false,.string k10,.bool c10,.string n10,.bool false,.string l10,.bool s10]))) (HO:∀ V,Below w.heap.size w V→Calls Tryz.prog 84 #[] V (RetB V (.agg #[.bool false,.string ⟨#[1]⟩,.bool false,.string ⟨#[]⟩]))) (HB:∀ V,Below w.heap.size w V→Calls Tryz.prog 29 #[.agg #[.bool b6,.string m6,.bool false,.string k6],.agg #[.bool false,.string ⟨#[1]⟩,.bool false,.string ⟨#[]⟩],.agg #[.bool b9,.string m9,.bool false,.string k9]] V (RetB V (.agg #[.bool b11,.string m11,.bool false,.string k11,.bool c11,.string n11,.bool false,.string l11,.bool s11]))) :
  Calls Tryz.prog 32 #[.agg #[.bool b1,.string m1,.bool false,.string k1,.bool b2,.string m2,.bool false,.string k2,.bool b3,.string m3,.bool false,.string k3]] w (RetLz w #[.bool b10,.string m10,.bool false,.string k10,.bool c10,.string n10,.bool false,.string l10,.bool s10,.bool b11,.string m11,.bool false,.string k11,.bool c11,.string n11,.bool false,.string l11,.bool s11] 27 2):=by
 obtain ⟨e1,e2⟩:=str_ne hn
 have e3:=empty_no (size_pos hn)
 clear hn
 obtain ⟨f1,f2⟩:=str_ne h9
 have f3:=empty_no (size_pos h9)
 clear h9
 have C1:=Lib.hid HZ
 have C2:=Lib.hid HW
 have C3:=Lib.hid HM
 have C4:=Lib.hid HR
 have C5:=Lib.hid HP
 have C6:=Lib.hid HC
 have C7:=Lib.hid HS
 have C8:=Lib.hid HG
 have C9:=Lib.hid HW1
 have C10:=Lib.hid HA
 have C11:=Lib.hid HO
 have C12:=Lib.hid HB
 cases b3
 all_goals
  have U1:Hid (∀ {p:Prop} (h:p:=by ((fail_if_success (go_not_at_region 5));(fail_if_success (have:=hLL));obtain ⟨LL,hLL⟩:=lexi X.out;go_cut [3] (fun s0 wx=>∃ g0,s0=.pointer (some ⟨g0,0,none⟩)∧Sb w (LL++[(g0,#[.bool b6,.string m6,.bool false,.string k6],25)]) [] wx);all_goals exact wkc)),p):=@fun _ h=>h
  have U2:Hid (∀ {p:Prop} (h:p:=by ((fail_if_success (go_not_at_region 6));(fail_if_success (have:=hLL));obtain ⟨LL,hLL⟩:=lexi X.out;go_cut [4] (fun s0 wx=>∃ g0,s0=.pointer (some ⟨g0,0,none⟩)∧Sb w (LL++[(g0,#[.bool b9,.string m9,.bool false,.string k9],25)]) [] wx);all_goals exact wkc)),p):=@fun _ h=>h
  have E1:Hid (∀ {p:Prop} (h:p:=by exact bodyPost_ret (v:=.slice (some ⟨_,0,none⟩) 2 2) (by simp [results,Tryz.results32,go_sem]<;>rfl) rfl ⟨_,rfl,(X.out.find (by repeat (with_reducible first | exact At.here | exact At.last | apply At.there | apply At.left))).1,(X.out.find (by repeat (with_reducible first | exact At.here | exact At.last | apply At.there | apply At.left))).2,X.out.bel⟩),p):=@fun _ h=>h
  clear HZ HW HM HR HP HC HS HG HW1 HA HO HB 
  go_enter Tryz.func32,Tryz.ntmps32
  exact wk0

set_option maxHeartbeats 8000000 in
set_option maxRecDepth 100000 in
theorem eval_w (w:World) {b1 b2 b3 b5 b6 b7 b8 b9 b10 b11 b12 b13 b14 b15:Bool} {m1 k1 m2 k2 m3 k3 m5 k5 m6 k6 m7 k7 m8 k8 m9 k9 m10 k10 m11 k11 m12 k12 m13 k13 m14 k14 m15 k15:ByteArray} {b4 c4 s4:Bool} {m4 k4 n4 l4:ByteArray} {b16 c16 s16:Bool} {m16 k16 n16 l16:ByteArray} {s:Int} (HA1:∀ V,Below w.heap.size w V→Calls Tryz.prog 78 #[.agg #[.bool b2,.string m2,.bool false,.string k2],.agg #[.bool b4,.string m4,.bool false,.string k4]] V (RetB V (.agg #[.bool b5,.string m5,.bool false,.string k5]))) (HA2:∀ V,Below w.heap.size w V→Calls Tryz.prog 78 #[.agg #[.bool b4,.string m4,.bool false,.string k4],.agg #[.bool b4,.string m4,.bool false,.string k4]] V (RetB V (.agg #[.bool b6,.string m6,.bool false,.string k6]))) (HA3:∀ V,Below w.heap.size w V→Calls Tryz.prog 77 #[.agg #[.bool b6,.string m6,.bool false,.string k6],.agg #[.bool c4,.string n4,.bool false,.string l4]] V (RetB V (.agg #[.bool b7,.string m7,.bool false,.string k7]))) (HA4:∀ V,Below w.heap.size w V→Calls Tryz.prog 78 #[.agg #[.bool b3,.string m3,.bool false,.string k3],.agg #[.bool b7,.string m7,.bool false,.string k7]] V (RetB V (.agg #[.bool b8,.string m8,.bool false,.string k8]))) (HA5:∀ V,Below w.heap.size w V→Calls Tryz.prog 77 #[.agg #[.bool b5,.string m5,.bool false,.string k5],.agg #[.bool b8,.string m8,.bool false,.string k8]] V (RetB V (.agg #[.bool b9,.string m9,.bool false,.string k9]))) (HA6:∀ V,Below w.heap.size w V→Calls Tryz.prog 77 #[.agg #[.bool b1,.string m1,.bool false,.string k1],.agg #[.bool b9,.string m9,.bool false,.string k9]] V (RetB V (.agg #[.bool b10,.string m10,.bool false,.string k10]))) (HW:∀ V,Below w.heap.size w V→Calls Tryz.prog 21 #[.int .i64 (2)] V (RetB V (.agg #[.bool false,.string ⟨#[2]⟩,.bool false,.string ⟨#[]⟩]))) (HB1:∀ V,Below w.heap.size w V→Calls Tryz.prog 78 #[.agg #[.bool b3,.string m3,.bool false,.string k3],.agg #[.bool b4,.string m4,.bool false,.string k4]] V (RetB V (.agg #[.bool b11,.string m11,.bool false,.string k11]))) (HB2:∀ V,Below w.heap.size w V→Calls Tryz.prog 78 #[.agg #[.bool false,.string ⟨#[2]⟩,.bool false,.string ⟨#[]⟩],.agg #[.bool b11,.string m11,.bool false,.string k11]] V (RetB V (.agg #[.bool b12,.string m12,.bool false,.string k12]))) (HB3:∀ V,Below w.heap.size w V→Calls Tryz.prog 77 #[.agg #[.bool b2,.string m2,.bool false,.string k2],.agg #[.bool b12,.string m12,.bool false,.string k12]] V (RetB V (.agg #[.bool b13,.string m13,.bool false,.string k13]))) (HS:∀ V,Below w.heap.size w V→Calls Tryz.prog 85 #[.agg #[.bool b4,.string m4,.bool false,.string k4,.bool c4,.string n4,.bool false,.string l4,.bool s4]] V (RetB V (.int .i64 (s)))) (HW2:∀ V,Below w.heap.size w V→Calls Tryz.prog 21 #[.int .i64 (s)] V (RetB V (.agg #[.bool b14,.string m14,.bool false,.string k14]))) (HB4:∀ V,Below w.heap.size w V→Calls Tryz.prog 78 #[.agg #[.bool b13,.string m13,.bool false,.string k13],.agg #[.bool b14,.string m14,.bool false,.string k14]] V (RetB V (.agg #[.bool b15,.string m15,.bool false,.string k15]))) (HM:∀ V,Below w.heap.size w V→Calls Tryz.prog 29 #[.agg #[.bool b10,.string m10,.bool false,.string k10],.agg #[.bool b15,.string m15,.bool false,.string k15],.agg #[.bool c4,.string n4,.bool false,.string l4]] V (RetB V (.agg #[.bool b16,.string m16,.bool false,.string k16,.bool c16,.string n16,.bool false,.string l16,.bool s16]))) :
  Calls Tryz.prog 33 #[.agg #[.bool b1,.string m1,.bool false,.string k1,.bool b2,.string m2,.bool false,.string k2,.bool b3,.string m3,.bool false,.string k3],.agg #[.bool b4,.string m4,.bool false,.string k4,.bool c4,.string n4,.bool false,.string l4,.bool s4]] w (RetB w (.agg #[.bool b16,.string m16,.bool false,.string k16,.bool c16,.string n16,.bool false,.string l16,.bool s16])):=by
 have C1:=Lib.hid HA1
 have C2:=Lib.hid HA2
 have C3:=Lib.hid HA3
 have C4:=Lib.hid HA4
 have C5:=Lib.hid HA5
 have C6:=Lib.hid HA6
 have C7:=Lib.hid HW
 have C8:=Lib.hid HB1
 have C9:=Lib.hid HB2
 have C10:=Lib.hid HB3
 have C11:=Lib.hid HS
 have C12:=Lib.hid HW2
 have C13:=Lib.hid HB4
 have C14:=Lib.hid HM
 have U1:Hid (∀ {p:Prop} (h:p:=by ((fail_if_success (go_not_at_region 1));(fail_if_success (have:=hLL));obtain ⟨LL,hLL⟩:=lexi X.out;go_cut [5] (fun s0 wx=>∃ g0,s0=.pointer (some ⟨g0,0,none⟩)∧Sb w (LL++[(g0,#[.bool b10,.string m10,.bool false,.string k10],25)]) [] wx);all_goals exact wkc)),p):=@fun _ h=>h
 have U2:Hid (∀ {p:Prop} (h:p:=by ((fail_if_success (go_not_at_region 2));(fail_if_success (have:=hLL));obtain ⟨LL,hLL⟩:=lexi X.out;go_cut [6] (fun s0 wx=>∃ g0,s0=.pointer (some ⟨g0,0,none⟩)∧Sb w (LL++[(g0,#[.bool b13,.string m13,.bool false,.string k13],25)]) [] wx);all_goals exact wkc)),p):=@fun _ h=>h
 have RS:=Lib.hid Tryz.results33
 clear HA1 HA2 HA3 HA4 HA5 HA6 HW HB1 HB2 HB3 HS HW2 HB4 HM 
 go_enter Tryz.func33,Tryz.ntmps33
 exact wk0
end Go.Proofs.YtpnokfgplnmjpaaGreatDoor


namespace Go.Proofs.YtpnokfgplnmjpaaGreatDoor
open Go.RowKit
attribute [local go_sem ↓] Go.wp_at_zero Go.wp_at_succ

set_option maxHeartbeats 8000000 in
set_option maxRecDepth 100000 in
theorem frac_no (w:World) {b1 d1:Bool} {m1 k1:ByteArray} (h:¬(m1.size:Int)+(k1.size:Int)≤8) (HB:∀ V,Below w.heap.size w V→Calls Tryz.prog 16 #[.agg #[.bool b1,.string m1,.bool d1,.string k1]] V (RetB V (.int .i64 ((m1.size:Int)+(k1.size:Int))))) :
  Calls Tryz.prog 26 #[.agg #[.bool b1,.string m1,.bool d1,.string k1]] w (RetB w (.bool false)):=by
 have C1:=Lib.hid HB
 clear HB 
 go_enter Tryz.func26,Tryz.ntmps26
 exact wk0

set_option maxHeartbeats 8000000 in
set_option maxRecDepth 100000 in
theorem frac_chk (w:World) {b1 d1:Bool} {m1 k1:ByteArray} {o:Bool} (h:(m1.size:Int)+(k1.size:Int)≤8) (HB:∀ V,Below w.heap.size w V→Calls Tryz.prog 16 #[.agg #[.bool b1,.string m1,.bool d1,.string k1]] V (RetB V (.int .i64 ((m1.size:Int)+(k1.size:Int))))) (HC:∀ V,Below w.heap.size w V→Calls Tryz.prog 57 #[.agg #[.bool b1,.string m1,.bool d1,.string k1]] V (RetB V (.bool o))) :
  Calls Tryz.prog 26 #[.agg #[.bool b1,.string m1,.bool d1,.string k1]] w (RetB w (.bool o)):=by
 have C1:=Lib.hid HB
 have C2:=Lib.hid HC
 clear HB HC 
 go_enter Tryz.func26,Tryz.ntmps26
 exact wk0

theorem frac_any (b1:Bool) (m1:ByteArray) (d1:Bool) (k1:ByteArray) (t1:m1.size≤140737488351232) (t2:k1.size≤140737488351232) :
  ∃ o,(∀ V,Calls Tryz.prog 26 #[.agg #[.bool b1,.string m1,.bool d1,.string k1]] V (RetB V (.bool o)))∧(o=true→d1=false∧∃ q:Rat,Rq q b1 m1 k1∧Sz 8 q):=by
 have HB:=fun (w V:World) (_:Below w.heap.size w V)=>bytes_w b1 d1 m1 k1 t1 t2 V
 by_cases h:(m1.size:Int)+(k1.size:Int)≤8
 · by_cases hp:d1=false∧∃ q,Rq q b1 m1 k1
   · obtain ⟨rfl,p,hp⟩:=hp
     exact ⟨true,fun V=>frac_chk V h (HB V) (fun V _=>rCheck_yes hp (by omega) (by omega) V),fun _=>⟨rfl,p,hp,sz8 hp (by omega) (by omega)⟩⟩
   · exact ⟨false,fun V=>frac_chk V h (HB V) (fun V _=>rCheck_no b1 m1 d1 k1 (by omega) (by omega) hp V),fun h=>by cases h⟩
 · exact ⟨false,fun V=>frac_no V h (HB V),fun h=>by cases h⟩
theorem mkR_ok {p q r:Rat} (h:0≤r):(Sg.mkR p q r).Ok:=by
 unfold Sg.mkR
 by_cases hs:Sg.Sq r
 · rw [if_pos hs];exact Sg.of_ok _
 · rw [if_neg hs]
   by_cases hq:q=0
   · rw [if_pos hq];exact Sg.of_ok _
   · rw [if_neg hq]
     refine ⟨?_,.inr ⟨?_,Sg.nsq_sq.2 (Sg.nsq_by hq hs)⟩⟩
     · show (if q<0 then (-1:Int) else 1)=1∨(if q<0 then (-1:Int) else 1)=-1
       split
       · exact .inr rfl
       · exact .inl rfl
     · show 0<q*q*r
       have h1:r≠0:=fun e=>hs ⟨0,by grind,by grind⟩
       exact Rat.mul_pos (Sg.sq_pos' hq) (by grind)
end Go.Proofs.YtpnokfgplnmjpaaGreatDoor


namespace Go.Proofs.YtpnokfgplnmjpaaGreatDoor
open Go.RowKit
attribute [local go_sem ↓] Go.wp_at_zero Go.wp_at_succ

end Go.Proofs.YtpnokfgplnmjpaaGreatDoor


namespace Go.Proofs.YtpnokfgplnmjpaaGreatDoor
open Go.RowKit
attribute [local go_sem ↓] Go.wp_at_zero Go.wp_at_succ

set_option maxHeartbeats 8000000 in
set_option maxRecDepth 100000 in
theorem quad_w (w:World) {b1 d1:Bool} {m1 k1:ByteArray} {b2 d2:Bool} {m2 k2:ByteArray} {b3 d3:Bool} {m3 k3:ByteArray} {o1 o2 o3:Bool} (HF1:∀ V,Below w.heap.size w V→Calls Tryz.prog 26 #[.agg #[.bool b1,.string m1,.bool d1,.string k1]] V (RetB V (.bool o1))) (HF2:∀ V,Below w.heap.size w V→Calls Tryz.prog 26 #[.agg #[.bool b2,.string m2,.bool d2,.string k2]] V (RetB V (.bool o2))) (HF3:∀ V,Below w.heap.size w V→Calls Tryz.prog 26 #[.agg #[.bool b3,.string m3,.bool d3,.string k3]] V (RetB V (.bool o3))) :
  Calls Tryz.prog 30 #[.agg #[.bool b1,.string m1,.bool d1,.string k1,.bool b2,.string m2,.bool d2,.string k2,.bool b3,.string m3,.bool d3,.string k3]] w (RetB w (.bool (o1 && (o2 && o3)))):=by
 have C1:=Lib.hid HF1
 have C2:=Lib.hid HF2
 have C3:=Lib.hid HF3
 cases o1<;>cases o2<;>cases o3
 all_goals
  clear HF1 HF2 HF3 
  go_enter Tryz.func30,Tryz.ntmps30
  exact wk0

set_option maxHeartbeats 8000000 in
set_option maxRecDepth 100000 in
theorem rr_no (w:World) {b1 d1:Bool} {m1 k1:ByteArray} {b2 d2:Bool} {m2 k2:ByteArray} {b3 d3:Bool} {m3 k3:ByteArray} (HK:∀ V,Below w.heap.size w V→Calls Tryz.prog 15 #[] V (RetB V (.bool true))) (HQ:∀ V,Below w.heap.size w V→Calls Tryz.prog 30 #[.agg #[.bool b1,.string m1,.bool d1,.string k1,.bool b2,.string m2,.bool d2,.string k2,.bool b3,.string m3,.bool d3,.string k3]] V (RetB V (.bool false))) :
  Calls Tryz.prog 5 #[.agg #[.bool b1,.string m1,.bool d1,.string k1,.bool b2,.string m2,.bool d2,.string k2,.bool b3,.string m3,.bool d3,.string k3]] w (RetB w (.bool true)):=by
 have C1:=Lib.hid HK
 have C2:=Lib.hid HQ
 clear HK HQ 
 go_enter Tryz.func5,Tryz.ntmps5
 exact wk0

set_option maxHeartbeats 8000000 in
set_option maxRecDepth 100000 in
theorem rr_zero (w:World)  (HK:∀ V,Below w.heap.size w V→Calls Tryz.prog 15 #[] V (RetB V (.bool true))) (HQ:∀ V,Below w.heap.size w V→Calls Tryz.prog 30 #[.agg #[.bool false,.string ⟨#[]⟩,.bool false,.string ⟨#[]⟩,.bool false,.string ⟨#[]⟩,.bool false,.string ⟨#[]⟩,.bool false,.string ⟨#[]⟩,.bool false,.string ⟨#[]⟩]] V (RetB V (.bool true))) (HR:∀ V,Below w.heap.size w V→Calls Tryz.prog 31 #[.agg #[.bool false,.string ⟨#[]⟩,.bool false,.string ⟨#[]⟩,.bool false,.string ⟨#[]⟩,.bool false,.string ⟨#[]⟩,.bool false,.string ⟨#[]⟩,.bool false,.string ⟨#[]⟩]] V (RetB V (.tuple #[.slice none 0 0,.int .i64 6]))) :
  Calls Tryz.prog 5 #[.agg #[.bool false,.string ⟨#[]⟩,.bool false,.string ⟨#[]⟩,.bool false,.string ⟨#[]⟩,.bool false,.string ⟨#[]⟩,.bool false,.string ⟨#[]⟩,.bool false,.string ⟨#[]⟩]] w (RetB w (.bool true)):=by
 have C1:=Lib.hid HK
 have C2:=Lib.hid HQ
 have C3:=Lib.hid HR
 clear HK HQ HR 
 go_enter Tryz.func5,Tryz.ntmps5
 exact wk0

set_option maxHeartbeats 8000000 in
set_option maxRecDepth 100000 in
theorem rr_nil (w:World) {b1 b2 b3:Bool} {m1 k1 m2 k2 m3 k3:ByteArray} (hn:m1≠⟨#[]⟩∨m2≠⟨#[]⟩∨m3≠⟨#[]⟩) (HK:∀ V,Below w.heap.size w V→Calls Tryz.prog 15 #[] V (RetB V (.bool true))) (HQ:∀ V,Below w.heap.size w V→Calls Tryz.prog 30 #[.agg #[.bool b1,.string m1,.bool false,.string k1,.bool b2,.string m2,.bool false,.string k2,.bool b3,.string m3,.bool false,.string k3]] V (RetB V (.bool true))) (HR:∀ V,Below w.heap.size w V→Calls Tryz.prog 31 #[.agg #[.bool b1,.string m1,.bool false,.string k1,.bool b2,.string m2,.bool false,.string k2,.bool b3,.string m3,.bool false,.string k3]] V (RetB V (.tuple #[.slice none 0 0,.int .i64 0]))) (HG:∀ V,Below w.heap.size w V→Calls Tryz.prog 32 #[.agg #[.bool b1,.string m1,.bool false,.string k1,.bool b2,.string m2,.bool false,.string k2,.bool b3,.string m3,.bool false,.string k3]] V (RetB V (.slice none 0 0))) :
  Calls Tryz.prog 5 #[.agg #[.bool b1,.string m1,.bool false,.string k1,.bool b2,.string m2,.bool false,.string k2,.bool b3,.string m3,.bool false,.string k3]] w (RetB w (.bool true)):=by
 have C1:=Lib.hid HK
 have C2:=Lib.hid HQ
 have C3:=Lib.hid HR
 have C4:=Lib.hid HG
 rcases hn with hn | hn | hn
 all_goals (obtain ⟨e1,e2⟩:=str_ne hn;have e3:=empty_no (size_pos hn);clear hn)
 all_goals
  have Z1:Hid (∀ {p:Prop} (h:p:=by ((with_reducible refine wp_loop_rounds 3 ?_);rw [rounds_succ];all_goals exact wk)),p):=@fun _ h=>h
  have Z2:Hid (∀ {p:Prop} (h:p:=by (rw [rounds_succ];all_goals exact wk)),p):=@fun _ h=>h
  clear HK HQ HR HG 
  go_enter Tryz.func5,Tryz.ntmps5
  exact wk0

set_option maxHeartbeats 8000000 in
set_option maxRecDepth 100000 in
theorem rr_one (w:World) {b4 c4 s4:Bool} {m4 k4 n4 l4:ByteArray} {b1 b2 b3:Bool} {m1 k1 m2 k2 m3 k3:ByteArray} (hn:m1≠⟨#[]⟩∨m2≠⟨#[]⟩∨m3≠⟨#[]⟩) (HRo:∀ V,Below w.heap.size w V→Calls Tryz.prog 31 #[.agg #[.bool b1,.string m1,.bool false,.string k1,.bool b2,.string m2,.bool false,.string k2,.bool b3,.string m3,.bool false,.string k3]] V (RetLs V #[.bool b4,.string m4,.bool false,.string k4,.bool c4,.string n4,.bool false,.string l4,.bool s4] 27 1)) (HGo:∀ V,Below w.heap.size w V→Calls Tryz.prog 32 #[.agg #[.bool b1,.string m1,.bool false,.string k1,.bool b2,.string m2,.bool false,.string k2,.bool b3,.string m3,.bool false,.string k3]] V (RetLz V #[.bool b4,.string m4,.bool false,.string k4,.bool c4,.string n4,.bool false,.string l4,.bool s4] 27 1)) (HK:∀ V,Below w.heap.size w V→Calls Tryz.prog 15 #[] V (RetB V (.bool true))) (HQ:∀ V,Below w.heap.size w V→Calls Tryz.prog 30 #[.agg #[.bool b1,.string m1,.bool false,.string k1,.bool b2,.string m2,.bool false,.string k2,.bool b3,.string m3,.bool false,.string k3]] V (RetB V (.bool true))) (HE0:∀ V,Below w.heap.size w V→Calls Tryz.prog 33 #[.agg #[.bool b1,.string m1,.bool false,.string k1,.bool b2,.string m2,.bool false,.string k2,.bool b3,.string m3,.bool false,.string k3],.agg #[.bool b4,.string m4,.bool false,.string k4,.bool c4,.string n4,.bool false,.string l4,.bool s4]] V (RetB V (.agg #[.bool false,.string ⟨#[]⟩,.bool false,.string ⟨#[]⟩,.bool false,.string ⟨#[]⟩,.bool false,.string ⟨#[]⟩,.bool false]))) :
  Calls Tryz.prog 5 #[.agg #[.bool b1,.string m1,.bool false,.string k1,.bool b2,.string m2,.bool false,.string k2,.bool b3,.string m3,.bool false,.string k3]] w (RetB w (.bool true)):=by
 have C4:=Lib.hid HRo
 have C5:=Lib.hid HGo
 have C1:=Lib.hid HK
 have C2:=Lib.hid HQ
 have C3:=Lib.hid HE0
 rcases hn with hn | hn | hn
 all_goals (obtain ⟨e1,e2⟩:=str_ne hn;have e3:=empty_no (size_pos hn);clear hn)
 all_goals
  have Z1:Hid (∀ {p:Prop} (h:p:=by ((with_reducible refine wp_loop_rounds 3 ?_);rw [rounds_succ];all_goals exact wk)),p):=@fun _ h=>h
  have Z2:Hid (∀ {p:Prop} (h:p:=by (rw [rounds_succ];all_goals exact wk)),p):=@fun _ h=>h
  have Z3:Hid (∀ {p:Prop} (h:p:=by ((go_at_call 31;(with_reducible refine (C4.out _ X.out.bel).mono ?_);rintro e u ⟨gl,rfl,hlo,hk9,hb9⟩;replace X:=Lib.hid (X.out.add hb9 hlo hk9);clear hb9 hlo hk9;replace F:=X.out.facts;simp only [Facts,cellsAt,List.take_succ_cons,List.take_zero,Nat.reduceAdd,and_true,List.set_cons_succ,List.set_cons_zero,List.cons_append,List.nil_append] at F);all_goals exact wk)),p):=@fun _ h=>h
  have Z4:Hid (∀ {p:Prop} (h:p:=by ((go_at_call 32;(with_reducible refine (C5.out _ X.out.bel).mono ?_);rintro e u ⟨gl,rfl,hlo,hk9,hb9⟩;replace X:=Lib.hid (X.out.add hb9 hlo hk9);clear hb9 hlo hk9;replace F:=X.out.facts;simp only [Facts,cellsAt,List.take_succ_cons,List.take_zero,Nat.reduceAdd,and_true,List.set_cons_succ,List.set_cons_zero,List.cons_append,List.nil_append] at F);all_goals exact wk)),p):=@fun _ h=>h
  clear HRo HGo HK HQ HE0 
  go_enter Tryz.func5,Tryz.ntmps5
  exact wk0

set_option maxHeartbeats 8000000 in
set_option maxRecDepth 100000 in
theorem rr_two (w:World) {b4 c4 s4:Bool} {m4 k4 n4 l4:ByteArray} {b5 c5 s5:Bool} {m5 k5 n5 l5:ByteArray} {b1 b2 b3:Bool} {m1 k1 m2 k2 m3 k3:ByteArray} (hn:m1≠⟨#[]⟩∨m2≠⟨#[]⟩∨m3≠⟨#[]⟩) (HRo:∀ V,Below w.heap.size w V→Calls Tryz.prog 31 #[.agg #[.bool b1,.string m1,.bool false,.string k1,.bool b2,.string m2,.bool false,.string k2,.bool b3,.string m3,.bool false,.string k3]] V (RetLs V #[.bool b4,.string m4,.bool false,.string k4,.bool c4,.string n4,.bool false,.string l4,.bool s4,.bool b5,.string m5,.bool false,.string k5,.bool c5,.string n5,.bool false,.string l5,.bool s5] 27 2)) (HGo:∀ V,Below w.heap.size w V→Calls Tryz.prog 32 #[.agg #[.bool b1,.string m1,.bool false,.string k1,.bool b2,.string m2,.bool false,.string k2,.bool b3,.string m3,.bool false,.string k3]] V (RetLz V #[.bool b4,.string m4,.bool false,.string k4,.bool c4,.string n4,.bool false,.string l4,.bool s4,.bool b5,.string m5,.bool false,.string k5,.bool c5,.string n5,.bool false,.string l5,.bool s5] 27 2)) (HK:∀ V,Below w.heap.size w V→Calls Tryz.prog 15 #[] V (RetB V (.bool true))) (HQ:∀ V,Below w.heap.size w V→Calls Tryz.prog 30 #[.agg #[.bool b1,.string m1,.bool false,.string k1,.bool b2,.string m2,.bool false,.string k2,.bool b3,.string m3,.bool false,.string k3]] V (RetB V (.bool true))) (HE0:∀ V,Below w.heap.size w V→Calls Tryz.prog 33 #[.agg #[.bool b1,.string m1,.bool false,.string k1,.bool b2,.string m2,.bool false,.string k2,.bool b3,.string m3,.bool false,.string k3],.agg #[.bool b4,.string m4,.bool false,.string k4,.bool c4,.string n4,.bool false,.string l4,.bool s4]] V (RetB V (.agg #[.bool false,.string ⟨#[]⟩,.bool false,.string ⟨#[]⟩,.bool false,.string ⟨#[]⟩,.bool false,.string ⟨#[]⟩,.bool false]))) (HE1:∀ V,Below w.heap.size w V→Calls Tryz.prog 33 #[.agg #[.bool b1,.string m1,.bool false,.string k1,.bool b2,.string m2,.bool false,.string k2,.bool b3,.string m3,.bool false,.string k3],.agg #[.bool b5,.string m5,.bool false,.string k5,.bool c5,.string n5,.bool false,.string l5,.bool s5]] V (RetB V (.agg #[.bool false,.string ⟨#[]⟩,.bool false,.string ⟨#[]⟩,.bool false,.string ⟨#[]⟩,.bool false,.string ⟨#[]⟩,.bool false]))) (HC:∀ V,Below w.heap.size w V→Calls Tryz.prog 34 #[.agg #[.bool b4,.string m4,.bool false,.string k4,.bool c4,.string n4,.bool false,.string l4,.bool s4],.agg #[.bool b5,.string m5,.bool false,.string k5,.bool c5,.string n5,.bool false,.string l5,.bool s5]] V (RetB V (.int .i64 (-1)))) :
  Calls Tryz.prog 5 #[.agg #[.bool b1,.string m1,.bool false,.string k1,.bool b2,.string m2,.bool false,.string k2,.bool b3,.string m3,.bool false,.string k3]] w (RetB w (.bool true)):=by
 have w1:IntKind.i64.wrap ((1:Int)-1)=0:=by decide +kernel
 have w0:IntKind.i64.wrap (0:Int)=0:=by decide +kernel
 have C6:=Lib.hid HRo
 have C7:=Lib.hid HGo
 have C1:=Lib.hid HK
 have C2:=Lib.hid HQ
 have C3:=Lib.hid HE0
 have C4:=Lib.hid HE1
 have C5:=Lib.hid HC
 rcases hn with hn | hn | hn
 all_goals (obtain ⟨e1,e2⟩:=str_ne hn;have e3:=empty_no (size_pos hn);clear hn)
 all_goals
  have Z1:Hid (∀ {p:Prop} (h:p:=by ((with_reducible refine wp_loop_rounds 3 ?_);rw [rounds_succ];all_goals exact wk)),p):=@fun _ h=>h
  have Z2:Hid (∀ {p:Prop} (h:p:=by (rw [rounds_succ];all_goals exact wk)),p):=@fun _ h=>h
  have Z3:Hid (∀ {p:Prop} (h:p:=by ((go_at_call 31;(with_reducible refine (C6.out _ X.out.bel).mono ?_);rintro e u ⟨gl,rfl,hlo,hk9,hb9⟩;replace X:=Lib.hid (X.out.add hb9 hlo hk9);clear hb9 hlo hk9;replace F:=X.out.facts;simp only [Facts,cellsAt,List.take_succ_cons,List.take_zero,Nat.reduceAdd,and_true,List.set_cons_succ,List.set_cons_zero,List.cons_append,List.nil_append] at F);all_goals exact wk)),p):=@fun _ h=>h
  have Z4:Hid (∀ {p:Prop} (h:p:=by ((go_at_call 32;(with_reducible refine (C7.out _ X.out.bel).mono ?_);rintro e u ⟨gl,rfl,hlo,hk9,hb9⟩;replace X:=Lib.hid (X.out.add hb9 hlo hk9);clear hb9 hlo hk9;replace F:=X.out.facts;simp only [Facts,cellsAt,List.take_succ_cons,List.take_zero,Nat.reduceAdd,and_true,List.set_cons_succ,List.set_cons_zero,List.cons_append,List.nil_append] at F);all_goals exact wk)),p):=@fun _ h=>h
  clear HRo HGo HK HQ HE0 HE1 HC 
  go_enter Tryz.func5,Tryz.ntmps5
  exact wk0

theorem eval_f {q1 q2 q3:Rat} {x:Sg.Rl} {b1 b2 b3:Bool} {m1 k1 m2 k2 m3 k3:ByteArray} {b4 c4 s4 b16 c16 s16:Bool} {m4 k4 n4 l4 m16 k16 n16 l16:ByteArray} (h1:Rq q1 b1 m1 k1) (h2:Rq q2 b2 m2 k2) (h3:Rq q3 b3 m3 k3) (hx:Rv x b4 m4 k4 c4 n4 l4 s4) (sx:x.s=1∨x.s=-1) (z1:Sz 8 q1) (z2:Sz 8 q2) (z3:Sz 8 q3) (zx:Rz 100 x) (h16:Rv (Sg.evalR q1 q2 q3 x) b16 m16 k16 c16 n16 l16 s16) (w:World):Calls Tryz.prog 33 #[.agg #[.bool b1,.string m1,.bool false,.string k1,.bool b2,.string m2,.bool false,.string k2,.bool b3,.string m3,.bool false,.string k3],.agg #[.bool b4,.string m4,.bool false,.string k4,.bool c4,.string n4,.bool false,.string l4,.bool s4]] w (RetB w (.agg #[.bool b16,.string m16,.bool false,.string k16,.bool c16,.string n16,.bool false,.string l16,.bool s16])):=by
 obtain ⟨b5,m5,k5,h5⟩:=Rq.some_ (q2*x.p)
 obtain ⟨b6,m6,k6,h6⟩:=Rq.some_ (x.p*x.p)
 obtain ⟨b7,m7,k7,h7⟩:=Rq.some_ (x.p*x.p+x.a)
 obtain ⟨b8,m8,k8,h8⟩:=Rq.some_ (q3*(x.p*x.p+x.a))
 obtain ⟨b9,m9,k9,h9⟩:=Rq.some_ (q2*x.p+q3*(x.p*x.p+x.a))
 obtain ⟨b10,m10,k10,h10⟩:=Rq.some_ (q1+(q2*x.p+q3*(x.p*x.p+x.a)))
 obtain ⟨b11,m11,k11,h11⟩:=Rq.some_ (q3*x.p)
 obtain ⟨b12,m12,k12,h12⟩:=Rq.some_ (2*(q3*x.p))
 obtain ⟨b13,m13,k13,h13⟩:=Rq.some_ (q2+2*(q3*x.p))
 obtain ⟨b14,m14,h14,HW⟩:=whole_q (pm_le sx).1
 obtain ⟨b15,m15,k15,h15⟩:=Rq.some_ ((q2+2*(q3*x.p))*(x.s:Rat))
 have zt:Sz 1 2:=⟨by decide +kernel,by decide +kernel⟩
 have z5:=z2.mul zx.p
 have z6:=zx.p.mul zx.p
 have z7:=z6.add zx.r
 have z8:=z3.mul z7
 have z9:=z5.add z8
 have z11:=z3.mul zx.p
 have z12:=zt.mul z11
 have z13:=z2.add z12
 have z14:Sz 1 (x.s:Rat):=Sz.whole (pm_le sx).1
 exact eval_w w (fun V _=>rmul_z h2 hx.p h5 (z2.up (by omega)) (zx.p.up (by omega)) V) (fun V _=>rmul_z hx.p hx.p h6 (zx.p.up (by omega)) (zx.p.up (by omega)) V) (fun V _=>radd_z h6 hx.r h7 (z6.up (by omega)) (zx.r.up (by omega)) V) (fun V _=>rmul_z h3 h7 h8 (z3.up (by omega)) (z7.up (by omega)) V) (fun V _=>radd_z h5 h8 h9 (z5.up (by omega)) (z8.up (by omega)) V) (fun V _=>radd_z h1 h9 h10 (z1.up (by omega)) (z9.up (by omega)) V)
  (fun V _=>whole_f (x:=2) qt.num (by omega) (by omega) V) (fun V _=>rmul_z h3 hx.p h11 (z3.up (by omega)) (zx.p.up (by omega)) V) (fun V _=>rmul_z qt h11 h12 (zt.up (by omega)) (z11.up (by omega)) V) (fun V _=>radd_z h2 h12 h13 (z2.up (by omega)) (z12.up (by omega)) V) (fun V _=>side_f hx sx V) (fun V _=>HW V) (fun V _=>rmul_z h13 h14 h15 (z13.up (by omega)) (z14.up (by omega)) V) (fun V _=>fmk_f h10 h15 hx.r ((z1.add z9).up (by omega)) ((z13.mul z14).up (by omega)) (zx.r.up (by omega)) h16 V)
theorem sumP_size {p d:Rat} (zp:Sz 20 p) (zd:Sz (59+1) d) (s:Int):Rz 100 (Sg.sumP p s d):=by
 unfold Sg.sumP
 have zr:=Sz.root zd
 split
 · split
   · exact ⟨(zp.sub zr).up (by omega),Sz.zero 99⟩
   · exact ⟨(zp.add zr).up (by omega),Sz.zero 99⟩
 · exact ⟨zp.up (by omega),zd.up (by omega)⟩
theorem eval_0 {q1 q2 q3 r:Rat} {b1 b2 b3 b4:Bool} {m1 k1 m2 k2 m3 k3 m4 k4:ByteArray} (h1:Rq q1 b1 m1 k1) (h2:Rq q2 b2 m2 k2) (h3:Rq q3 b3 m3 k3) (h4:Rq r b4 m4 k4) (z1:Sz 8 q1) (z2:Sz 8 q2) (z3:Sz 8 q3) (zr:Sz 100 r) (h:q1+(q2*r+q3*(r*r))=0) (w:World):Calls Tryz.prog 33 #[.agg #[.bool b1,.string m1,.bool false,.string k1,.bool b2,.string m2,.bool false,.string k2,.bool b3,.string m3,.bool false,.string k3],.agg #[.bool b4,.string m4,.bool false,.string k4,.bool false,.string ⟨#[]⟩,.bool false,.string ⟨#[]⟩,.bool false]] w (RetB w (.agg #[.bool false,.string ⟨#[]⟩,.bool false,.string ⟨#[]⟩,.bool false,.string ⟨#[]⟩,.bool false,.string ⟨#[]⟩,.bool false])):=by
 refine eval_f (x:=Sg.Rl.of r) h1 h2 h3 ⟨h4,Rq.zero,rfl⟩ (.inl rfl) z1 z2 z3 ⟨zr,Sz.zero 99⟩ ?_ w
 have e:Sg.evalR q1 q2 q3 (Sg.Rl.of r)=Sg.Rl.of 0:=by
  show Sg.mkR (q1+(q2*r+q3*(r*r+0))) _ 0=_
  rw [Sg.mkR_zero,show r*r+(0:Rat)=r*r by grind,h]
 rw [e]
 exact ⟨Rq.zero,Rq.zero,rfl⟩
theorem roots_all (b1:Bool) (m1:ByteArray) (d1:Bool) (k1:ByteArray) (b2:Bool) (m2:ByteArray) (d2:Bool) (k2:ByteArray) (b3:Bool) (m3:ByteArray) (d3:Bool) (k3:ByteArray) (tm1:m1.size≤140737488351232) (tk1:k1.size≤140737488351232) (tm2:m2.size≤140737488351232) (tk2:k2.size≤140737488351232) (tm3:m3.size≤140737488351232) (tk3:k3.size≤140737488351232) (w:World) (hE:Env w):Calls Tryz.prog 5 #[.agg #[.bool b1,.string m1,.bool d1,.string k1,.bool b2,.string m2,.bool d2,.string k2,.bool b3,.string m3,.bool d3,.string k3]] w (RetB w (.bool true)):=by
 obtain ⟨o1,H1,P1⟩:=frac_any b1 m1 d1 k1 tm1 tk1
 obtain ⟨o2,H2,P2⟩:=frac_any b2 m2 d2 k2 tm2 tk2
 obtain ⟨o3,H3,P3⟩:=frac_any b3 m3 d3 k3 tm3 tk3
 have HK:=fun V (hb:Below w.heap.size w V)=>rknown3 V (hE.next hb)
 have HQ:=fun V (_:Below w.heap.size w V)=>quad_w V (fun U _=>H1 U) (fun U _=>H2 U) (fun U _=>H3 U)
 by_cases ho:(o1 && (o2 && o3))=true
 case neg =>
  rw [show (o1 && (o2 && o3))=false by simpa using ho] at HQ
  exact rr_no w HK HQ
 rw [ho] at HQ
 simp only [Bool.and_eq_true] at ho
 obtain ⟨rfl,q1,h1,z1⟩:=P1 ho.1
 obtain ⟨rfl,q2,h2,z2⟩:=P2 ho.2.1
 obtain ⟨rfl,q3,h3,z3⟩:=P3 ho.2.2
 have up:∀ {q:Rat} {n:Nat},8≤n→Sz 8 q→Sz n q:=fun hn h=>h.up hn
 by_cases h30:q3=0
 · obtain ⟨rfl,rfl,rfl⟩:=h3.nought.1 h30
   by_cases h20:q2=0
   · obtain ⟨rfl,rfl,rfl⟩:=h2.nought.1 h20
     by_cases h10:q1=0
     · obtain ⟨rfl,rfl,rfl⟩:=h1.nought.1 h10
       exact rr_zero w HK HQ (fun V _=>roots_zero V)
     · exact rr_nil w (.inl (h1.ne h10)) HK HQ (fun V _=>roots_const V (h1.ne h10)) (fun V _=>froots_const V (fun U _=>zero_any U))
   · have h2n:q2.num≠0:=fun e=>h20 (Rat.num_eq_zero.1 e)
     obtain ⟨b5,m5,k5,h5⟩:=Rq.some_ (-q1)
     obtain ⟨b4,m4,k4,h4⟩:=Rq.some_ (-q1 / q2)
     obtain ⟨b6,m6,k6,h6⟩:=Rq.some_ (q1 / q2)
     have zm:Sz 8 (-q1):=z1.minus
     refine rr_one w (.inr (.inl (h2.ne h20))) (fun V hb=>roots_lin V (h2.ne h20) (fun U _=>ratNeg_f h1 h5 U) (fun U hb2=>ratio_f h5 h2 h4 h2n (zm.up (by omega)) (z2.up (by omega)) U ((hE.next hb).next hb2)) (fun U _=>fromRat_any _ _ _ U)) (fun V _=>froots_lin V (h2.ne h20) (fun U _=>zero_any U) (fun U _=>rdiv_z h1 h2 h6 h2n (z1.up (by omega)) (z2.up (by omega)) U) (fun U _=>rNeg_f h6 (by rw [show -(q1 / q2)=-q1 / q2 by grind];exact h4) U)) HK HQ (fun V _=>?_)
     exact eval_0 h1 h2 h3 h4 z1 z2 z3 ((zm.by_ z2).up (by omega)) (by rw [h30];grind) V
 · have h3n:q3.num≠0:=fun e=>h30 (Rat.num_eq_zero.1 e)
   obtain ⟨bt,mt,ht⟩:=Rq.int_ (q:=-2) rfl
   have zt:Sz 1 (-2):=⟨by decide +kernel,by decide +kernel⟩
   have zw:Sz 1 2:=⟨by decide +kernel,by decide +kernel⟩
   obtain ⟨p,hp⟩:∃ p,p=-q2 / (2*q3):=⟨_,rfl⟩
   obtain ⟨d,hd⟩:∃ d,d=p*p-q1 / q3:=⟨_,rfl⟩
   have hp2:q2 / (-2*q3)=p:=by rw [hp];grind
   have h50:(2*q3).num≠0:=fun e=>by have:=Rat.num_eq_zero.1 e;grind
   have h51:(-2*q3).num≠0:=fun e=>by have:=Rat.num_eq_zero.1 e;grind
   obtain ⟨b4,m4,k4,h4⟩:=Rq.some_ (-q2)
   obtain ⟨b5,m5,k5,h5⟩:=Rq.some_ (2*q3)
   obtain ⟨b6,m6,k6,h6⟩:=Rq.some_ p
   obtain ⟨b7,m7,k7,h7⟩:=Rq.some_ (q1 / q3)
   obtain ⟨b8,m8,k8,h8⟩:=Rq.some_ (p*p)
   obtain ⟨b9,m9,k9,h9⟩:=Rq.some_ d
   obtain ⟨b10,m10,k10,h10⟩:=Rq.some_ (-2*q3)
   have zm:Sz 8 (-q2):=z2.minus
   have z5:=zw.mul z3
   have z5':=zt.mul z3
   have z6:Sz 18 p:=by rw [hp];exact (zm.by_ z5).up (by omega)
   have z7:=z1.by_ z3
   have z8:=z6.mul z6
   have z9:Sz 54 d:=by rw [hd];exact (z8.sub z7).up (by omega)
   rw [hd] at h9
   have N:=fun U (_:True)=>ratNeg_f h2 h4 U
   have A1:=fun (V:World) (hV:Env V) U (hb2:Below V.heap.size V U)=>mul_z qt h3 h5 (zw.up (by omega)) (z3.up (by omega)) U (hV.next hb2)
   have A2:=fun (V:World) (hV:Env V) U (hb2:Below V.heap.size V U)=>ratio_f h4 h5 (by rw [←hp];exact h6) h50 (zm.up (by omega)) (z5.up (by omega)) U (hV.next hb2)
   have A3:=fun (V:World) (hV:Env V) U (hb2:Below V.heap.size V U)=>ratio_f h1 h3 h7 h3n (z1.up (by omega)) (z3.up (by omega)) U (hV.next hb2)
   have A4:=fun (V:World) (hV:Env V) U (hb2:Below V.heap.size V U)=>mul_z h6 h6 h8 (z6.up (by omega)) (z6.up (by omega)) U (hV.next hb2)
   have A5:=fun (V:World) (hV:Env V) U (hb2:Below V.heap.size V U)=>sub_z h8 h7 h9 (z8.up (by omega)) (z7.up (by omega)) U (hV.next hb2)
   have B0:=fun (V U:World) (_:Below V.heap.size V U)=>zero_any U
   have B1:=fun (V U:World) (_:Below V.heap.size V U)=>whole_f (x:=-2) ht.num (by omega) (by omega) U
   have B2:=fun (V U:World) (_:Below V.heap.size V U)=>rmul_z ht h3 h10 (zt.up (by omega)) (z3.up (by omega)) U
   have B3:=fun (V U:World) (_:Below V.heap.size V U)=>rdiv_z h2 h10 (by rw [hp2];exact h6) h51 (z2.up (by omega)) (z5'.up (by omega)) U
   have B4:=fun (V U:World) (_:Below V.heap.size V U)=>rmul_z h6 h6 h8 (z6.up (by omega)) (z6.up (by omega)) U
   have B5:=fun (V U:World) (_:Below V.heap.size V U)=>rdiv_z h1 h3 h7 h3n (z1.up (by omega)) (z3.up (by omega)) U
   have B6:=fun (V U:World) (_:Below V.heap.size V U)=>rsub_z h8 h7 h9 (z8.up (by omega)) (z7.up (by omega)) U
   have G1:=fun (V U:World) (_:Below V.heap.size V U)=>sign_z h9 U
   have G2:=fun (V U:World) (_:Below V.heap.size V U)=>rsign_z h9 U
   rw [←hd] at G1 G2 h9
   rcases Sg.sgq_three d with ⟨g,e⟩ | ⟨g,e⟩ | ⟨g,e⟩
   · rw [e] at G1 G2
     exact rr_nil w (.inr (.inr (h3.ne h30))) HK HQ (fun V hb=>roots_neg V (h3.ne h30) (fun U _=>N U trivial) (fun U _=>rFromInt_f (x:=2) qt.num (by omega) (by omega) U) (A1 V (hE.next hb)) (A2 V (hE.next hb)) (A3 V (hE.next hb)) (A4 V (hE.next hb)) (A5 V (hE.next hb)) (G1 V)) (fun V _=>froots_neg V (h3.ne h30) (B0 V) (B1 V) (B2 V) (B3 V) (B4 V) (B5 V) (B6 V) (G2 V))
   · rw [e] at G1 G2
     have h9':=h9
     obtain ⟨rfl,rfl,rfl⟩:=h9.nought.1 g
     refine rr_one w (.inr (.inr (h3.ne h30))) (fun V hb=>roots_dbl V (h3.ne h30) (fun U _=>N U trivial) (fun U _=>rFromInt_f (x:=2) qt.num (by omega) (by omega) U) (A1 V (hE.next hb)) (A2 V (hE.next hb)) (A3 V (hE.next hb)) (A4 V (hE.next hb)) (A5 V (hE.next hb)) (G1 V) (fun U _=>fromRat_any _ _ _ U)) (fun V _=>froots_dbl (b9:=false) (m9:=⟨#[]⟩) (k9:=⟨#[]⟩) V (h3.ne h30) (B0 V) (B1 V) (B2 V) (B3 V) (B4 V) (B5 V) (B6 V) (G2 V)) HK HQ (fun V _=>?_)
     exact eval_0 h1 h2 h3 h6 z1 z2 z3 (z6.up (by omega)) (by
      have e1:q1 / q3*q3=q1:=by grind
      have e2:p*(2*q3)=-q2:=by rw [hp];grind
      have e3:q1 / q3=p*p:=by grind
      rw [e3] at e1
      grind) V
   · rw [e] at G2
     obtain ⟨b11,m11,k11,c11,n11,l11,s11,h11⟩:=Rv.some_ (Sg.sumP p (-1) d)
     obtain ⟨b12,m12,k12,c12,n12,l12,s12,h12⟩:=Rv.some_ (Sg.sumP p 1 d)
     obtain ⟨bu,mu,hu⟩:=Rq.int_ (q:=-1) rfl
     have zu:Sz 1 (-1):=⟨by decide +kernel,by decide +kernel⟩
     have zo:Sz 1 1:=⟨by decide +kernel,by decide +kernel⟩
     have ok1:(Sg.sumP p (-1) d).Ok:=by rw [Sg.root_low];exact mkR_ok (by grind)
     have ok2:(Sg.sumP p 1 d).Ok:=by rw [Sg.root_high];exact mkR_ok (by grind)
     have y1:=sumP_size (z6.up (by omega)) (z9.up (by omega)) (-1)
     have y2:=sumP_size (z6.up (by omega)) (z9.up (by omega)) 1
     have e1:q1 / q3*q3=q1:=by grind
     have e2:q2+2*(q3*p)=0:=by rw [hp];grind
     have e3:q3*(p*p-d)=q1:=by rw [hd];grind
     have ev1:Sg.evalR q1 q2 q3 (Sg.sumP p (-1) d)=Sg.Rl.of 0:=by rw [Sg.root_low];exact Sg.eval_root (.inr rfl) e2 e3
     have ev2:Sg.evalR q1 q2 q3 (Sg.sumP p 1 d)=Sg.Rl.of 0:=by rw [Sg.root_high];exact Sg.eval_root (.inl rfl) e2 e3
     refine rr_two w (.inr (.inr (h3.ne h30))) (fun V hb=>?_) (fun V _=>froots_two V (h3.ne h30) (h9.ne (by grind)) (B0 V) (B1 V) (B2 V) (B3 V) (B4 V) (B5 V) (B6 V) (G2 V) (fun U _=>whole_f (x:=-1) hu.num (by omega) (by omega) U) (fun U _=>fmk_f h6 hu h9 (z6.up (by omega)) (zu.up (by omega)) (z9.up (by omega)) (by rw [←Sg.root_low];exact h11) U) (fun U _=>one_any U) (fun U _=>fmk_f h6 qo h9 (z6.up (by omega)) (zo.up (by omega)) (z9.up (by omega)) (by rw [←Sg.root_high];exact h12) U)) HK HQ (fun V _=>eval_f h1 h2 h3 h11 ok1.sg z1 z2 z3 y1 (by rw [ev1];exact ⟨Rq.zero,Rq.zero,rfl⟩) V) (fun V _=>eval_f h1 h2 h3 h12 ok2.sg z1 z2 z3 y2 (by rw [ev2];exact ⟨Rq.zero,Rq.zero,rfl⟩) V) (fun V hb=>?_)
     · rw [hd] at g h11 h12
       cases b3
       · exact roots_two_false h1 h2 h3 h30 (z1.up (by omega)) (z2.up (by omega)) (z3.up (by omega)) hp g h11 h12 V (hE.next hb)
       · exact roots_two_true h1 h2 h3 h30 (z1.up (by omega)) (z2.up (by omega)) (z3.up (by omega)) hp g h11 h12 V (hE.next hb)
     · have h:=cmp_f h11 h12 ok1 ok2 ⟨y1.p.up (by omega),y1.r.up (by omega)⟩ ⟨y2.p.up (by omega),y2.r.up (by omega)⟩ V (hE.next hb)
       rw [show Sg.cmpX (Sg.sumP p (-1) d) (Sg.sumP p 1 d)=-1 by rw [Sg.root_low,Sg.root_high];exact Sg.roots_less g] at h
       exact h
end Go.Proofs.YtpnokfgplnmjpaaGreatDoor
