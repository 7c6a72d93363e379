import Derived.Test.YtpnokfgplnmjpaaGreatDoorGRLG
import Derived.Test.YtpnokfgplnmjpaaGreatDoorGRCB
import Derived.Test.YtpnokfgplnmjpaaGreatDoorGRCA
import Derived.Test.YtpnokfgplnmjpaaGreatDoorGRLN
import Derived.Test.YtpnokfgplnmjpaaGreatDoorGRLL
set_option linter.unusedSimpArgs false
set_option linter.unusedVariables false

namespace Go.Proofs.YtpnokfgplnmjpaaGreatDoor
open Go.RowKit
attribute [local go_sem ↓] Go.wp_at_zero Go.wp_at_succ

theorem wrap_small {x:Int} (h1:-9223372036854775808≤x) (h2:x≤9223372036854775807):IntKind.i64.wrap x=x:=by
 rw [IntKind.wrap_i64]
 omega

set_option maxHeartbeats 8000000 in
set_option maxRecDepth 100000 in
theorem bytes_w (b1 d1:Bool) (m1 k1:ByteArray) (hm:m1.size≤140737488351232) (hk:k1.size≤140737488351232) (w:World) :
  Calls Tryz.prog 16 #[.agg #[.bool b1,.string m1,.bool d1,.string k1]] w (RetB w (.int .i64 ((m1.size:Int)+(k1.size:Int)))):=by
 have hw:IntKind.i64.wrap ((m1.size:Int)+(k1.size:Int))=(m1.size:Int)+(k1.size:Int):=wrap_small (by omega) (by omega)
 go_enter Tryz.func16,Tryz.ntmps16
 exact wk0

set_option maxHeartbeats 8000000 in
set_option maxRecDepth 100000 in
theorem fchk_bad1 (w:World) {b1 d1 c1 e1 s1:Bool} {m1 k1 n1 l1:ByteArray} (HC1:∀ V,Below w.heap.size w V→Calls Tryz.prog 57 #[.agg #[.bool b1,.string m1,.bool d1,.string k1]] V (RetB V (.bool false))) :
  Calls Tryz.prog 17 #[.agg #[.bool b1,.string m1,.bool d1,.string k1,.bool c1,.string n1,.bool e1,.string l1,.bool s1]] w (RetB w (.bool false)):=by
 have C1:=Lib.hid HC1
 clear HC1 
 go_enter Tryz.func17,Tryz.ntmps17
 exact wk0

set_option maxHeartbeats 8000000 in
set_option maxRecDepth 100000 in
theorem fchk_bad2 (w:World) {b1 d1 c1 e1 s1:Bool} {m1 k1 n1 l1:ByteArray} (HC1:∀ V,Below w.heap.size w V→Calls Tryz.prog 57 #[.agg #[.bool b1,.string m1,.bool d1,.string k1]] V (RetB V (.bool true))) (HC2:∀ V,Below w.heap.size w V→Calls Tryz.prog 57 #[.agg #[.bool c1,.string n1,.bool e1,.string l1]] V (RetB V (.bool false))) :
  Calls Tryz.prog 17 #[.agg #[.bool b1,.string m1,.bool d1,.string k1,.bool c1,.string n1,.bool e1,.string l1,.bool s1]] w (RetB w (.bool false)):=by
 have C1:=Lib.hid HC1
 have C2:=Lib.hid HC2
 clear HC1 HC2 
 go_enter Tryz.func17,Tryz.ntmps17
 exact wk0

set_option maxHeartbeats 8000000 in
set_option maxRecDepth 100000 in
theorem fchk_zero (w:World) {b1 d1 s1:Bool} {m1 k1:ByteArray} (HC1:∀ V,Below w.heap.size w V→Calls Tryz.prog 57 #[.agg #[.bool b1,.string m1,.bool d1,.string k1]] V (RetB V (.bool true))) (HC2:∀ V,Below w.heap.size w V→Calls Tryz.prog 57 #[.agg #[.bool false,.string ⟨#[]⟩,.bool false,.string ⟨#[]⟩]] V (RetB V (.bool true))) (HS:∀ V,Below w.heap.size w V→Calls Tryz.prog 28 #[.agg #[.bool false,.string ⟨#[]⟩,.bool false,.string ⟨#[]⟩]] V (RetB V (.int .i64 (0)))) (HZ:∀ V,Below w.heap.size w V→Calls Tryz.prog 24 #[] V (RetB V (.agg #[.bool false,.string ⟨#[]⟩,.bool false,.string ⟨#[]⟩]))) :
  Calls Tryz.prog 17 #[.agg #[.bool b1,.string m1,.bool d1,.string k1,.bool false,.string ⟨#[]⟩,.bool false,.string ⟨#[]⟩,.bool s1]] w (RetB w (.bool (!s1))):=by
 have C1:=Lib.hid HC1
 have C2:=Lib.hid HC2
 have C3:=Lib.hid HS
 have C4:=Lib.hid HZ
 clear HC1 HC2 HS HZ 
 go_enter Tryz.func17,Tryz.ntmps17
 exact wk0

set_option maxHeartbeats 8000000 in
set_option maxRecDepth 100000 in
theorem fchk_neg (w:World) {b1 d1 s1:Bool} {m1 k1 n1 l1:ByteArray} (HC1:∀ V,Below w.heap.size w V→Calls Tryz.prog 57 #[.agg #[.bool b1,.string m1,.bool d1,.string k1]] V (RetB V (.bool true))) (HC2:∀ V,Below w.heap.size w V→Calls Tryz.prog 57 #[.agg #[.bool true,.string n1,.bool false,.string l1]] V (RetB V (.bool true))) (HS:∀ V,Below w.heap.size w V→Calls Tryz.prog 28 #[.agg #[.bool true,.string n1,.bool false,.string l1]] V (RetB V (.int .i64 (-1)))) (HZ:∀ V,Below w.heap.size w V→Calls Tryz.prog 24 #[] V (RetB V (.agg #[.bool false,.string ⟨#[]⟩,.bool false,.string ⟨#[]⟩]))) :
  Calls Tryz.prog 17 #[.agg #[.bool b1,.string m1,.bool d1,.string k1,.bool true,.string n1,.bool false,.string l1,.bool s1]] w (RetB w (.bool false)):=by
 have C1:=Lib.hid HC1
 have C2:=Lib.hid HC2
 have C3:=Lib.hid HS
 have C4:=Lib.hid HZ
 clear HC1 HC2 HS HZ 
 go_enter Tryz.func17,Tryz.ntmps17
 exact wk0

set_option maxHeartbeats 8000000 in
set_option maxRecDepth 100000 in
theorem fchk_pos (w:World) {b1 d1 c1 e1 s1:Bool} {m1 k1 n1 l1:ByteArray} {o:Bool} {b2 c2:Bool} {m2 k2:ByteArray} (HC1:∀ V,Below w.heap.size w V→Calls Tryz.prog 57 #[.agg #[.bool b1,.string m1,.bool d1,.string k1]] V (RetB V (.bool true))) (HC2:∀ V,Below w.heap.size w V→Calls Tryz.prog 57 #[.agg #[.bool c1,.string n1,.bool e1,.string l1]] V (RetB V (.bool true))) (HS:∀ V,Below w.heap.size w V→Calls Tryz.prog 28 #[.agg #[.bool c1,.string n1,.bool e1,.string l1]] V (RetB V (.int .i64 1))) (HR:∀ V,Below w.heap.size w V→Calls Tryz.prog 68 #[.agg #[.bool c1,.string n1,.bool e1,.string l1]] V (RetB V (.tuple #[.agg #[.bool b2,.string m2,.bool c2,.string k2],.bool o]))) :
  Calls Tryz.prog 17 #[.agg #[.bool b1,.string m1,.bool d1,.string k1,.bool c1,.string n1,.bool e1,.string l1,.bool s1]] w (RetB w (.bool (!o))):=by
 have C1:=Lib.hid HC1
 have C2:=Lib.hid HC2
 have C3:=Lib.hid HS
 have C4:=Lib.hid HR
 clear HC1 HC2 HS HR 
 go_enter Tryz.func17,Tryz.ntmps17
 exact wk0

set_option maxHeartbeats 8000000 in
set_option maxRecDepth 100000 in
theorem small_no1 (w:World) {b1 d1 c1 e1 s1:Bool} {m1 k1 n1 l1:ByteArray} (h:¬(m1.size:Int)+(k1.size:Int)≤8) (HB1:∀ V,Below w.heap.size w V→Calls Tryz.prog 16 #[.agg #[.bool b1,.string m1,.bool d1,.string k1]] V (RetB V (.int .i64 ((m1.size:Int)+(k1.size:Int))))) :
  Calls Tryz.prog 22 #[.agg #[.bool b1,.string m1,.bool d1,.string k1,.bool c1,.string n1,.bool e1,.string l1,.bool s1]] w (RetB w (.bool false)):=by
 have C1:=Lib.hid HB1
 clear HB1 
 go_enter Tryz.func22,Tryz.ntmps22
 exact wk0

set_option maxHeartbeats 8000000 in
set_option maxRecDepth 100000 in
theorem small_no2 (w:World) {b1 d1 c1 e1 s1:Bool} {m1 k1 n1 l1:ByteArray} (h:(m1.size:Int)+(k1.size:Int)≤8) (h':¬(n1.size:Int)+(l1.size:Int)≤8) (HB1:∀ V,Below w.heap.size w V→Calls Tryz.prog 16 #[.agg #[.bool b1,.string m1,.bool d1,.string k1]] V (RetB V (.int .i64 ((m1.size:Int)+(k1.size:Int))))) (HB2:∀ V,Below w.heap.size w V→Calls Tryz.prog 16 #[.agg #[.bool c1,.string n1,.bool e1,.string l1]] V (RetB V (.int .i64 ((n1.size:Int)+(l1.size:Int))))) :
  Calls Tryz.prog 22 #[.agg #[.bool b1,.string m1,.bool d1,.string k1,.bool c1,.string n1,.bool e1,.string l1,.bool s1]] w (RetB w (.bool false)):=by
 have C1:=Lib.hid HB1
 have C2:=Lib.hid HB2
 clear HB1 HB2 
 go_enter Tryz.func22,Tryz.ntmps22
 exact wk0

set_option maxHeartbeats 8000000 in
set_option maxRecDepth 100000 in
theorem small_chk (w:World) {b1 d1 c1 e1 s1:Bool} {m1 k1 n1 l1:ByteArray} {o:Bool} (h:(m1.size:Int)+(k1.size:Int)≤8) (h':(n1.size:Int)+(l1.size:Int)≤8) (HB1:∀ V,Below w.heap.size w V→Calls Tryz.prog 16 #[.agg #[.bool b1,.string m1,.bool d1,.string k1]] V (RetB V (.int .i64 ((m1.size:Int)+(k1.size:Int))))) (HB2:∀ V,Below w.heap.size w V→Calls Tryz.prog 16 #[.agg #[.bool c1,.string n1,.bool e1,.string l1]] V (RetB V (.int .i64 ((n1.size:Int)+(l1.size:Int))))) (HC:∀ V,Below w.heap.size w V→Calls Tryz.prog 17 #[.agg #[.bool b1,.string m1,.bool d1,.string k1,.bool c1,.string n1,.bool e1,.string l1,.bool s1]] V (RetB V (.bool o))) :
  Calls Tryz.prog 22 #[.agg #[.bool b1,.string m1,.bool d1,.string k1,.bool c1,.string n1,.bool e1,.string l1,.bool s1]] w (RetB w (.bool o)):=by
 have C1:=Lib.hid HB1
 have C2:=Lib.hid HB2
 have C3:=Lib.hid HC
 clear HB1 HB2 HC 
 go_enter Tryz.func22,Tryz.ntmps22
 exact wk0

theorem sz8 {q:Rat} {b:Bool} {m k:ByteArray} (h:Rq q b m k) (hm:m.size≤8) (hk:k.size≤8):Sz 8 q:=by
 have h1:=bval_lt m
 rw [h.bval] at h1
 refine ⟨Nat.lt_of_lt_of_le h1 (Nat.pow_le_pow_right (by decide) hm),?_⟩
 by_cases hd:q.den=1
 · rw [hd];decide
 · have h2:=bval_lt k
   rw [h.den2 hd,bval_mag] at h2
   rw [h.den2 hd] at hk
   exact Nat.lt_of_lt_of_le h2 (Nat.pow_le_pow_right (by decide) hk)
theorem small_or (b1 d1 c1 e1 s1:Bool) (m1 k1 n1 l1:ByteArray) (t1:m1.size≤140737488351232) (t2:k1.size≤140737488351232) (t3:n1.size≤140737488351232) (t4:l1.size≤140737488351232) :
  ∃ o,(∀ V,Calls Tryz.prog 22 #[.agg #[.bool b1,.string m1,.bool d1,.string k1,.bool c1,.string n1,.bool e1,.string l1,.bool s1]] V (RetB V (.bool o)))∧(o=true→d1=false∧e1=false∧∃ x:Sg.Rl,x.Ok∧Rv x b1 m1 k1 c1 n1 l1 s1∧Rz 8 x):=by
 have HB1:=fun (w V:World) (_:Below w.heap.size w V)=>bytes_w b1 d1 m1 k1 t1 t2 V
 have HB2:=fun (w V:World) (_:Below w.heap.size w V)=>bytes_w c1 e1 n1 l1 t3 t4 V
 by_cases h:(m1.size:Int)+(k1.size:Int)≤8
 · by_cases h':(n1.size:Int)+(l1.size:Int)≤8
   · by_cases hp:d1=false∧∃ q,Rq q b1 m1 k1
     · by_cases hr:e1=false∧∃ q,Rq q c1 n1 l1
       · obtain ⟨rfl,p,hp⟩:=hp
         obtain ⟨rfl,r,hr⟩:=hr
         have C1:=fun (w V:World) (_:Below w.heap.size w V)=>rCheck_yes hp (by omega) (by omega) V
         have C2:=fun (w V:World) (_:Below w.heap.size w V)=>rCheck_yes hr (by omega) (by omega) V
         have C3:=fun (w V:World) (_:Below w.heap.size w V)=>rsign_z hr V
         have zp:=sz8 hp (by omega) (by omega)
         have zr:=sz8 hr (by omega) (by omega)
         rcases Sg.sgq_three r with ⟨g,e⟩ | ⟨g,e⟩ | ⟨g,e⟩
         · obtain rfl:c1=true:=by rw [hr.mag.1];exact decide_eq_true (num_neg_iff.2 g)
           rw [e] at C3
           exact ⟨false,fun V=>small_chk V h h' (HB1 V) (HB2 V) (fun V _=>fchk_neg V (C1 V) (C2 V) (C3 V) (fun V _=>zero_any V)),fun h=>by cases h⟩
         · obtain ⟨rfl,rfl,rfl⟩:=hr.nought.1 g
           rw [e] at C3
           refine ⟨!s1,fun V=>small_chk V h h' (HB1 V) (HB2 V) (fun V _=>fchk_zero V (C1 V) (C2 V) (C3 V) (fun V _=>zero_any V)),fun hs=>⟨rfl,rfl,⟨p,0,1⟩,⟨.inl rfl,.inl ⟨rfl,rfl⟩⟩,⟨hp,Rq.zero,?_⟩,⟨zp,Sz.zero 7⟩⟩⟩
           simpa using hs
         · rw [e] at C3
           by_cases hs:Sg.Sq r
           · obtain ⟨b2,m2,k2,h2⟩:=Rq.some_ (Sg.rt r)
             exact ⟨false,fun V=>small_chk V h h' (HB1 V) (HB2 V) (fun V _=>fchk_pos V (C1 V) (C2 V) (C3 V) (fun V _=>(root_yes_z hr (zr.up (by omega)) hs h2).2 V)),fun h=>by cases h⟩
           · refine ⟨true,fun V=>small_chk V h h' (HB1 V) (HB2 V) (fun V _=>fchk_pos V (C1 V) (C2 V) (C3 V) (fun V _=>(root_no_z hr (zr.up (by omega)) hs).2 V)),fun _=>⟨rfl,rfl,⟨p,r,if s1 then -1 else 1⟩,⟨?_,.inr ⟨g,Sg.nsq_sq.2 hs⟩⟩,⟨hp,hr,?_⟩,⟨zp,zr⟩⟩⟩
             · cases s1<;>simp
             · cases s1<;>simp
       · obtain ⟨rfl,p,hp⟩:=hp
         exact ⟨false,fun V=>small_chk V h h' (HB1 V) (HB2 V) (fun V _=>fchk_bad2 V (fun V _=>rCheck_yes hp (by omega) (by omega) V) (fun V _=>rCheck_no c1 n1 e1 l1 (by omega) (by omega) hr V)),fun h=>by cases h⟩
     · exact ⟨false,fun V=>small_chk V h h' (HB1 V) (HB2 V) (fun V _=>fchk_bad1 V (fun V _=>rCheck_no b1 m1 d1 k1 (by omega) (by omega) hp V)),fun h=>by cases h⟩
   · exact ⟨false,fun V=>small_no2 V h h' (HB1 V) (HB2 V),fun h=>by cases h⟩
 · exact ⟨false,fun V=>small_no1 V h (HB1 V),fun h=>by cases h⟩
end Go.Proofs.YtpnokfgplnmjpaaGreatDoor


namespace Go.Proofs.YtpnokfgplnmjpaaGreatDoor
open Go.RowKit
attribute [local go_sem ↓] Go.wp_at_zero Go.wp_at_succ

theorem Sz.whole {n:Int} (h:n.natAbs≤255):Sz 1 (n:Rat):=⟨by show (n:Rat).num.natAbs<256^1;rw [Rat.num_intCast];omega,by show (n:Rat).den<256^1;rw [Rat.den_intCast];decide⟩
theorem whole_q {n:Int} (h:n.natAbs≤255):∃ b m,Rq (n:Rat) b m ⟨#[]⟩∧∀ V,Calls Tryz.prog 21 #[.int .i64 n] V (RetB V (.agg #[.bool b,.string m,.bool false,.string ⟨#[]⟩])):=by
 obtain ⟨b,m,k,hq⟩:=Rq.some_ (n:Rat)
 obtain rfl:=hq.den1 (Rat.den_intCast n)
 exact ⟨b,m,hq,fun V=>whole_f (by have h1:=hq.num;rw [Rat.num_intCast] at h1;exact h1) (by omega) (by omega) V⟩
end Go.Proofs.YtpnokfgplnmjpaaGreatDoor


namespace Go.Proofs.YtpnokfgplnmjpaaGreatDoor
open Go.RowKit
attribute [local go_sem ↓] Go.wp_at_zero Go.wp_at_succ

theorem ok_false {x:Sg.Rl} {b1 c1 s1:Bool} {m1 k1 n1 l1:ByteArray} (hx:Rv x b1 m1 k1 c1 n1 l1 s1) (h:0<x.a):c1=false:=by
 rw [hx.r.mag.1]
 have h1:¬x.a.num<0:=by rw [num_neg_iff];grind
 exact decide_eq_false h1
end Go.Proofs.YtpnokfgplnmjpaaGreatDoor


namespace Go.Proofs.YtpnokfgplnmjpaaGreatDoor
open Go.RowKit
attribute [local go_sem ↓] Go.wp_at_zero Go.wp_at_succ

set_option maxHeartbeats 8000000 in
set_option maxRecDepth 100000 in
theorem fshift_w (w:World) {b1 c1 s1:Bool} {m1 k1 n1 l1:ByteArray} {b6 c6 s6:Bool} {m6 k6 n6 l6:ByteArray} {b2 b3 b4:Bool} {m2 k2 m3 k3 m4 k4:ByteArray} {s:Int} (HA:∀ V,Below w.heap.size w V→Calls Tryz.prog 77 #[.agg #[.bool b1,.string m1,.bool false,.string k1],.agg #[.bool b2,.string m2,.bool false,.string k2]] V (RetB V (.agg #[.bool b3,.string m3,.bool false,.string k3]))) (HS:∀ V,Below w.heap.size w V→Calls Tryz.prog 85 #[.agg #[.bool b1,.string m1,.bool false,.string k1,.bool c1,.string n1,.bool false,.string l1,.bool s1]] V (RetB V (.int .i64 (s)))) (HW:∀ V,Below w.heap.size w V→Calls Tryz.prog 21 #[.int .i64 (s)] V (RetB V (.agg #[.bool b4,.string m4,.bool false,.string k4]))) (HM:∀ V,Below w.heap.size w V→Calls Tryz.prog 29 #[.agg #[.bool b3,.string m3,.bool false,.string k3],.agg #[.bool b4,.string m4,.bool false,.string k4],.agg #[.bool c1,.string n1,.bool false,.string l1]] V (RetB V (.agg #[.bool b6,.string m6,.bool false,.string k6,.bool c6,.string n6,.bool false,.string l6,.bool s6]))) :
  Calls Tryz.prog 47 #[.agg #[.bool b1,.string m1,.bool false,.string k1,.bool c1,.string n1,.bool false,.string l1,.bool s1],.agg #[.bool b2,.string m2,.bool false,.string k2]] w (RetB w (.agg #[.bool b6,.string m6,.bool false,.string k6,.bool c6,.string n6,.bool false,.string l6,.bool s6])):=by
 have C1:=Lib.hid HA
 have C2:=Lib.hid HS
 have C3:=Lib.hid HW
 have C4:=Lib.hid HM
 have RS:=Lib.hid Tryz.results47
 clear HA HS HW HM 
 go_enter Tryz.func47,Tryz.ntmps47
 exact wk0

set_option maxHeartbeats 8000000 in
set_option maxRecDepth 100000 in
theorem fscale_w (w:World) {b1 c1 s1:Bool} {m1 k1 n1 l1:ByteArray} {b6 c6 s6:Bool} {m6 k6 n6 l6:ByteArray} {b2 b3 b4 b5:Bool} {m2 k2 m3 k3 m4 k4 m5 k5:ByteArray} {s:Int} (HA:∀ V,Below w.heap.size w V→Calls Tryz.prog 78 #[.agg #[.bool b1,.string m1,.bool false,.string k1],.agg #[.bool b2,.string m2,.bool false,.string k2]] V (RetB V (.agg #[.bool b3,.string m3,.bool false,.string k3]))) (HS:∀ V,Below w.heap.size w V→Calls Tryz.prog 85 #[.agg #[.bool b1,.string m1,.bool false,.string k1,.bool c1,.string n1,.bool false,.string l1,.bool s1]] V (RetB V (.int .i64 (s)))) (HW:∀ V,Below w.heap.size w V→Calls Tryz.prog 21 #[.int .i64 (s)] V (RetB V (.agg #[.bool b4,.string m4,.bool false,.string k4]))) (HB:∀ V,Below w.heap.size w V→Calls Tryz.prog 78 #[.agg #[.bool b2,.string m2,.bool false,.string k2],.agg #[.bool b4,.string m4,.bool false,.string k4]] V (RetB V (.agg #[.bool b5,.string m5,.bool false,.string k5]))) (HM:∀ V,Below w.heap.size w V→Calls Tryz.prog 29 #[.agg #[.bool b3,.string m3,.bool false,.string k3],.agg #[.bool b5,.string m5,.bool false,.string k5],.agg #[.bool c1,.string n1,.bool false,.string l1]] V (RetB V (.agg #[.bool b6,.string m6,.bool false,.string k6,.bool c6,.string n6,.bool false,.string l6,.bool s6]))) :
  Calls Tryz.prog 48 #[.agg #[.bool b1,.string m1,.bool false,.string k1,.bool c1,.string n1,.bool false,.string l1,.bool s1],.agg #[.bool b2,.string m2,.bool false,.string k2]] w (RetB w (.agg #[.bool b6,.string m6,.bool false,.string k6,.bool c6,.string n6,.bool false,.string l6,.bool s6])):=by
 have C1:=Lib.hid HA
 have C2:=Lib.hid HS
 have C3:=Lib.hid HW
 have C4:=Lib.hid HB
 have C5:=Lib.hid HM
 have RS:=Lib.hid Tryz.results48
 clear HA HS HW HB HM 
 go_enter Tryz.func48,Tryz.ntmps48
 exact wk0

set_option maxHeartbeats 8000000 in
set_option maxRecDepth 100000 in
theorem fneg_w (w:World) {b1 c1 s1:Bool} {m1 k1 n1 l1:ByteArray} {b6 c6 s6:Bool} {m6 k6 n6 l6:ByteArray} {b2:Bool} {m2 k2:ByteArray} (HW:∀ V,Below w.heap.size w V→Calls Tryz.prog 21 #[.int .i64 (-1)] V (RetB V (.agg #[.bool b2,.string m2,.bool false,.string k2]))) (HC:∀ V,Below w.heap.size w V→Calls Tryz.prog 48 #[.agg #[.bool b1,.string m1,.bool false,.string k1,.bool c1,.string n1,.bool false,.string l1,.bool s1],.agg #[.bool b2,.string m2,.bool false,.string k2]] V (RetB V (.agg #[.bool b6,.string m6,.bool false,.string k6,.bool c6,.string n6,.bool false,.string l6,.bool s6]))) :
  Calls Tryz.prog 46 #[.agg #[.bool b1,.string m1,.bool false,.string k1,.bool c1,.string n1,.bool false,.string l1,.bool s1]] w (RetB w (.agg #[.bool b6,.string m6,.bool false,.string k6,.bool c6,.string n6,.bool false,.string l6,.bool s6])):=by
 have C1:=Lib.hid HW
 have C2:=Lib.hid HC
 have RS:=Lib.hid Tryz.results46
 clear HW HC 
 go_enter Tryz.func46,Tryz.ntmps46
 exact wk0

set_option maxHeartbeats 8000000 in
set_option maxRecDepth 100000 in
theorem finv_w (w:World) {b1 c1 s1:Bool} {m1 k1 n1 l1:ByteArray} {b6 c6 s6:Bool} {m6 k6 n6 l6:ByteArray} {b2 b3 b4 b5 b7:Bool} {m2 k2 m3 k3 m4 k4 m5 k5 m7 k7:ByteArray} {s:Int} (hs:IntKind.i64.wrap (-s)=-s) (HP:∀ V,Below w.heap.size w V→Calls Tryz.prog 78 #[.agg #[.bool b1,.string m1,.bool false,.string k1],.agg #[.bool b1,.string m1,.bool false,.string k1]] V (RetB V (.agg #[.bool b2,.string m2,.bool false,.string k2]))) (HA:∀ V,Below w.heap.size w V→Calls Tryz.prog 83 #[.agg #[.bool b2,.string m2,.bool false,.string k2],.agg #[.bool c1,.string n1,.bool false,.string l1]] V (RetB V (.agg #[.bool b3,.string m3,.bool false,.string k3]))) (HD:∀ V,Below w.heap.size w V→Calls Tryz.prog 82 #[.agg #[.bool b1,.string m1,.bool false,.string k1],.agg #[.bool b3,.string m3,.bool false,.string k3]] V (RetB V (.agg #[.bool b4,.string m4,.bool false,.string k4]))) (HS:∀ V,Below w.heap.size w V→Calls Tryz.prog 85 #[.agg #[.bool b1,.string m1,.bool false,.string k1,.bool c1,.string n1,.bool false,.string l1,.bool s1]] V (RetB V (.int .i64 (s)))) (HW:∀ V,Below w.heap.size w V→Calls Tryz.prog 21 #[.int .i64 (-s)] V (RetB V (.agg #[.bool b5,.string m5,.bool false,.string k5]))) (HE:∀ V,Below w.heap.size w V→Calls Tryz.prog 82 #[.agg #[.bool b5,.string m5,.bool false,.string k5],.agg #[.bool b3,.string m3,.bool false,.string k3]] V (RetB V (.agg #[.bool b7,.string m7,.bool false,.string k7]))) (HM:∀ V,Below w.heap.size w V→Calls Tryz.prog 29 #[.agg #[.bool b4,.string m4,.bool false,.string k4],.agg #[.bool b7,.string m7,.bool false,.string k7],.agg #[.bool c1,.string n1,.bool false,.string l1]] V (RetB V (.agg #[.bool b6,.string m6,.bool false,.string k6,.bool c6,.string n6,.bool false,.string l6,.bool s6]))) :
  Calls Tryz.prog 51 #[.agg #[.bool b1,.string m1,.bool false,.string k1,.bool c1,.string n1,.bool false,.string l1,.bool s1]] w (RetB w (.agg #[.bool b6,.string m6,.bool false,.string k6,.bool c6,.string n6,.bool false,.string l6,.bool s6])):=by
 have C1:=Lib.hid HP
 have C2:=Lib.hid HA
 have C3:=Lib.hid HD
 have C4:=Lib.hid HS
 have C5:=Lib.hid HW
 have C6:=Lib.hid HE
 have C7:=Lib.hid HM
 have U1:Hid (∀ {p:Prop} (h:p:=by ((fail_if_success (go_not_at_region 1));(fail_if_success (have:=hLL));obtain ⟨LL,hLL⟩:=lexi X.out;go_cut [3] (fun s0 wx=>∃ g0,s0=.pointer (some ⟨g0,0,none⟩)∧Sb w (LL++[(g0,#[.bool b3,.string m3,.bool false,.string k3],25)]) [] wx);all_goals exact wkc)),p):=@fun _ h=>h
 have RS:=Lib.hid Tryz.results51
 clear HP HA HD HS HW HE HM 
 go_enter Tryz.func51,Tryz.ntmps51
 exact wk0

noncomputable def Sg.Rl.scl (x:Sg.Rl) (r:Rat):Sg.Rl:=Sg.mkR (x.p*r) (r*(x.s:Rat)) x.a
def Sg.Rl.nm (x:Sg.Rl):Rat:=x.p*x.p-x.a
noncomputable def Sg.Rl.iv (x:Sg.Rl):Sg.Rl:=Sg.mkR (x.p / x.nm) (((-x.s:Int):Rat) / x.nm) x.a
theorem pm_le {s:Int} (hs:s=1∨s=-1):s.natAbs≤255∧(-s).natAbs≤255:=by rcases hs with rfl | rfl<;>decide
theorem fshift_f {x:Sg.Rl} {r:Rat} {b1 c1 s1:Bool} {m1 k1 n1 l1:ByteArray} {b2:Bool} {m2 k2:ByteArray} {b6 c6 s6:Bool} {m6 k6 n6 l6:ByteArray} (hx:Rv x b1 m1 k1 c1 n1 l1 s1) (ok:x.Ok) (hr:Rq r b2 m2 k2) (h6:Rv (x.add r) b6 m6 k6 c6 n6 l6 s6) (zx:Rz 500 x) (zr:Sz 500 r) (w:World):Calls Tryz.prog 47 #[.agg #[.bool b1,.string m1,.bool false,.string k1,.bool c1,.string n1,.bool false,.string l1,.bool s1],.agg #[.bool b2,.string m2,.bool false,.string k2]] w (RetB w (.agg #[.bool b6,.string m6,.bool false,.string k6,.bool c6,.string n6,.bool false,.string l6,.bool s6])):=by
 obtain ⟨b3,m3,k3,h3⟩:=Rq.some_ (x.p+r)
 obtain ⟨b4,m4,h4,HW⟩:=whole_q (pm_le ok.sg).1
 have z3:=zx.p.add zr
 have z4:=(Sz.whole (pm_le ok.sg).1)
 rw [←Sg.add_mk ok] at h6
 exact fshift_w w (fun V _=>radd_z hx.p hr h3 (zx.p.up (by omega)) (zr.up (by omega)) V) (fun V _=>side_f hx ok.sg V) (fun V _=>HW V) (fun V _=>fmk_f h3 h4 hx.r (z3.up (by omega)) (z4.up (by omega)) (zx.r.up (by omega)) h6 V)
theorem fscale_f {x:Sg.Rl} {r:Rat} {b1 c1 s1:Bool} {m1 k1 n1 l1:ByteArray} {b2:Bool} {m2 k2:ByteArray} {b6 c6 s6:Bool} {m6 k6 n6 l6:ByteArray} (hx:Rv x b1 m1 k1 c1 n1 l1 s1) (ok:x.Ok) (hr:Rq r b2 m2 k2) (h6:Rv (x.scl r) b6 m6 k6 c6 n6 l6 s6) (zx:Rz 500 x) (zr:Sz 500 r) (w:World):Calls Tryz.prog 48 #[.agg #[.bool b1,.string m1,.bool false,.string k1,.bool c1,.string n1,.bool false,.string l1,.bool s1],.agg #[.bool b2,.string m2,.bool false,.string k2]] w (RetB w (.agg #[.bool b6,.string m6,.bool false,.string k6,.bool c6,.string n6,.bool false,.string l6,.bool s6])):=by
 obtain ⟨b3,m3,k3,h3⟩:=Rq.some_ (x.p*r)
 obtain ⟨b4,m4,h4,HW⟩:=whole_q (pm_le ok.sg).1
 obtain ⟨b5,m5,k5,h5⟩:=Rq.some_ (r*(x.s:Rat))
 have z3:=zx.p.mul zr
 have z4:=(Sz.whole (pm_le ok.sg).1)
 have z5:=zr.mul z4
 exact fscale_w w (fun V _=>rmul_z hx.p hr h3 (zx.p.up (by omega)) (zr.up (by omega)) V) (fun V _=>side_f hx ok.sg V) (fun V _=>HW V) (fun V _=>rmul_z hr h4 h5 (zr.up (by omega)) (z4.up (by omega)) V) (fun V _=>fmk_f h3 h5 hx.r (z3.up (by omega)) (z5.up (by omega)) (zx.r.up (by omega)) h6 V)
theorem scl_neg {x:Sg.Rl} (ok:x.Ok):x.scl (-1)=x.neg:=by
 unfold Sg.Rl.scl
 rw [Sg.scale_mk ok (by decide),Sg.neg_scale ok]
theorem fneg_f {x:Sg.Rl} {b1 c1 s1 b6 c6 s6:Bool} {m1 k1 n1 l1 m6 k6 n6 l6:ByteArray} (hx:Rv x b1 m1 k1 c1 n1 l1 s1) (ok:x.Ok) (h6:Rv x.neg b6 m6 k6 c6 n6 l6 s6) (zx:Rz 500 x) (w:World):Calls Tryz.prog 46 #[.agg #[.bool b1,.string m1,.bool false,.string k1,.bool c1,.string n1,.bool false,.string l1,.bool s1]] w (RetB w (.agg #[.bool b6,.string m6,.bool false,.string k6,.bool c6,.string n6,.bool false,.string l6,.bool s6])):=by
 obtain ⟨b2,m2,h2,HW⟩:=whole_q (n:=-1) (by decide)
 rw [←scl_neg ok] at h6
 exact fneg_w w (fun V _=>HW V) (fun V _=>fscale_f hx ok h2 h6 zx ((Sz.whole (n:=-1) (by decide)).up (by omega)) V)
theorem nm_ne {x:Sg.Rl} (ok:x.Ok) (h0:x≠Sg.Rl.of 0):x.nm≠0:=by
 unfold Sg.Rl.nm
 rcases Sg.ok_cases ok with ⟨h1,h2⟩ | ⟨h1,h2⟩
 · rw [h1]
   have hp:x.p≠0:=fun e=>h0 (Sg.Rl.ext' e h1 h2)
   have:=Sg.sq_pos' hp
   grind
 · have h3:=Sg.nsq_sq.2 h2 x.p
   grind
theorem finv_f {x:Sg.Rl} {b1 c1 s1 b6 c6 s6:Bool} {m1 k1 n1 l1 m6 k6 n6 l6:ByteArray} (hx:Rv x b1 m1 k1 c1 n1 l1 s1) (ok:x.Ok) (h0:x≠Sg.Rl.of 0) (h6:Rv x.iv b6 m6 k6 c6 n6 l6 s6) (zx:Rz 200 x) (w:World):Calls Tryz.prog 51 #[.agg #[.bool b1,.string m1,.bool false,.string k1,.bool c1,.string n1,.bool false,.string l1,.bool s1]] w (RetB w (.agg #[.bool b6,.string m6,.bool false,.string k6,.bool c6,.string n6,.bool false,.string l6,.bool s6])):=by
 obtain ⟨b2,m2,k2,h2⟩:=Rq.some_ (x.p*x.p)
 obtain ⟨b3,m3,k3,h3⟩:=Rq.some_ x.nm
 obtain ⟨b4,m4,k4,h4⟩:=Rq.some_ (x.p / x.nm)
 obtain ⟨b5,m5,h5,HW⟩:=whole_q (pm_le ok.sg).2
 obtain ⟨b7,m7,k7,h7⟩:=Rq.some_ (((-x.s:Int):Rat) / x.nm)
 have z2:=zx.p.mul zx.p
 have z3:=z2.sub zx.r
 have z5:=Sz.whole (pm_le ok.sg).2
 have hn:x.nm.num≠0:=fun e=>nm_ne ok h0 (Rat.num_eq_zero.1 e)
 exact finv_w w (by rcases ok.sg with e | e<;>rw [e]<;>decide) (fun V _=>rmul_z hx.p hx.p h2 (zx.p.up (by omega)) (zx.p.up (by omega)) V) (fun V _=>rsub_z h2 hx.r h3 (z2.up (by omega)) (zx.r.up (by omega)) V) (fun V _=>rdiv_z hx.p h3 h4 hn (zx.p.up (by omega)) (z3.up (by omega)) V) (fun V _=>side_f hx ok.sg V) (fun V _=>HW V) (fun V _=>rdiv_z h5 h3 h7 hn (z5.up (by omega)) (z3.up (by omega)) V) (fun V _=>fmk_f h4 h7 hx.r ((zx.p.by_ z3).up (by omega)) ((z5.by_ z3).up (by omega)) (zx.r.up (by omega)) h6 V)
theorem rscl_f {x:Sg.Rl} {r:Rat} {b1 c1 s1:Bool} {m1 k1 n1 l1:ByteArray} {b2:Bool} {m2 k2:ByteArray} {b6 c6 s6:Bool} {m6 k6 n6 l6:ByteArray} (hx:Rv x b1 m1 k1 c1 n1 l1 s1) (ok:x.Ok) (hr:Rq r b2 m2 k2) (h6:Rv (x.scl r) b6 m6 k6 c6 n6 l6 s6) (zx:Rz 2000 x) (zr:Sz 2000 r) (w:World) (hE:Env w):Calls Tryz.prog 45 #[.agg #[.bool b1,.string m1,.bool false,.string k1,.bool c1,.string n1,.bool false,.string l1,.bool s1],.agg #[.bool b2,.string m2,.bool false,.string k2]] w (RetB w (.agg #[.bool b6,.string m6,.bool false,.string k6,.bool c6,.string n6,.bool false,.string l6,.bool s6])):=by
 unfold Sg.Rl.scl at h6
 by_cases ha:x.a=0
 · obtain ⟨rfl,rfl,rfl⟩:=hx.r.nought.1 ha
   rw [ha,Sg.mkR_zero] at h6
   obtain ⟨rfl,rfl,rfl⟩:=h6.r.nought.1 rfl
   obtain rfl:s6=false:=h6.neg
   exact rscale_rat hx.p hr h6.p (zx.p.up (by omega)) (zr.up (by omega)) w hE
 · by_cases h0:r=0
   · subst h0
     obtain ⟨rfl,rfl,rfl⟩:=hr.nought.1 rfl
     have e:Sg.mkR (x.p*0) (0*(x.s:Rat)) x.a=Sg.Rl.of 0:=by
      unfold Sg.mkR Sg.Rl.of
      have h2:¬Sg.Sq x.a:=by
       rcases Sg.ok_cases ok with ⟨h,_⟩ | ⟨_,h⟩
       · exact absurd h ha
       · exact h
      rw [if_neg h2,if_pos (by grind),show x.p*0=0 by grind]
     rw [e] at h6
     obtain ⟨rfl,rfl,rfl⟩:=h6.r.nought.1 rfl
     obtain ⟨rfl,rfl,rfl⟩:=h6.p.nought.1 rfl
     obtain rfl:s6=false:=h6.neg
     exact rscale_0 hx ha w
   · rw [Sg.scale_mk ok h0] at h6
     unfold Sg.Rl.scale at h6
     rw [if_neg ha] at h6
     have hs:s6=(s1 != decide (Sg.sgq r<0)):=by
      rw [h6.neg,hx.neg]
      show decide ((if r<0 then -x.s else x.s)<0)=_
      by_cases hr0:r<0
      · rw [if_pos hr0,Sg.sgq_neg hr0]
        rcases ok.sg with e | e<;>rw [e]<;>decide
      · rw [if_neg hr0,Sg.sgq_pos (by grind)]
        rcases ok.sg with e | e<;>rw [e]<;>decide
     subst hs
     exact rscale_irr hx ha hr h0 h6.p h6.r ⟨zx.p.up (by omega),zx.r.up (by omega)⟩ zr w hE
theorem iv_root {x:Sg.Rl} (ok:x.Ok) (ha:0<x.a) (hn:x.nm≠0):x.iv=x.inv (1 / x.nm):=by
 have h1:(1:Rat) / x.nm≠0:=inv_ne hn
 rw [←Sg.inv_mk ok ha h1]
 unfold Sg.Rl.iv
 rw [show x.p / x.nm=x.p*(1 / x.nm) by grind,show ((-x.s:Int):Rat) / x.nm=-(x.s:Rat)*(1 / x.nm) by rw [Rat.intCast_neg];grind]
theorem iv_rat {x:Sg.Rl} (ha:x.a=0) (hp:x.p≠0):x.iv=Sg.Rl.of (1 / x.p):=by
 unfold Sg.Rl.iv Sg.Rl.nm
 rw [ha,Sg.mkR_zero]
 congr 1
 grind
theorem rinv_f {x:Sg.Rl} {b1 c1 s1 b6 c6 s6:Bool} {m1 k1 n1 l1 m6 k6 n6 l6:ByteArray} (hx:Rv x b1 m1 k1 c1 n1 l1 s1) (ok:x.Ok) (h0:x≠Sg.Rl.of 0) (h6:Rv x.iv b6 m6 k6 c6 n6 l6 s6) (zx:Rz 200 x) (w:World) (hE:Env w):Calls Tryz.prog 50 #[.agg #[.bool b1,.string m1,.bool false,.string k1,.bool c1,.string n1,.bool false,.string l1,.bool s1]] w (RetB w (.tuple #[.agg #[.bool b6,.string m6,.bool false,.string k6,.bool c6,.string n6,.bool false,.string l6,.bool s6],.int .i64 0])):=by
 by_cases ha:x.a=0
 · obtain ⟨rfl,rfl,rfl⟩:=hx.r.nought.1 ha
   have hp:x.p≠0:=fun e=>nm_ne ok h0 (by unfold Sg.Rl.nm;rw [ha,e];grind)
   rw [iv_rat ha hp] at h6
   obtain ⟨rfl,rfl,rfl⟩:=h6.r.nought.1 rfl
   obtain rfl:s6=false:=h6.neg
   obtain rfl:s1=false:=by
    rw [hx.neg]
    rcases Sg.ok_cases ok with ⟨_,e⟩ | ⟨e,_⟩
    · rw [e];rfl
    · grind
   exact rinv_rat hx.p hp h6.p (zx.p.up (by omega)) w hE
 · have hpos:=ok_pos ok ha
   have hn:=nm_ne ok h0
   rw [iv_root ok hpos hn] at h6
   obtain rfl:=ok_false hx hpos
   have hs:s6=((!s1) != decide (Sg.sgq (1 / x.nm)<0)):=by
    rw [h6.neg,hx.neg]
    show decide ((if 0<1 / x.nm then -x.s else x.s)<0)=_
    have h1:(1:Rat) / x.nm≠0:=inv_ne hn
    by_cases hm:0<1 / x.nm
    · rw [if_pos hm,Sg.sgq_pos hm]
      rcases ok.sg with e | e<;>rw [e]<;>decide
    · rw [if_neg hm,Sg.sgq_neg (by grind)]
      rcases ok.sg with e | e<;>rw [e]<;>decide
   subst hs
   exact rinv_irr hx ha rfl hn h6.p h6.r ⟨zx.p.up (by omega),zx.r.up (by omega)⟩ w hE
theorem iv_ok {x:Sg.Rl} (ok:x.Ok) (h0:x≠Sg.Rl.of 0):x.iv.Ok∧x.iv≠Sg.Rl.of 0∧x.iv.iv=x:=by
 have hn:=nm_ne ok h0
 by_cases ha:x.a=0
 · have hp:x.p≠0:=fun e=>hn (by unfold Sg.Rl.nm;rw [ha,e];grind)
   have h1:(1:Rat) / x.p≠0:=inv_ne hp
   rw [iv_rat ha hp]
   refine ⟨Sg.of_ok _,fun e=>h1 (congrArg Sg.Rl.p e),?_⟩
   rw [iv_rat rfl h1]
   refine Sg.Rl.ext' ?_ ha.symm ?_
   · show 1 / (1 / x.p)=x.p
     grind
   · rcases Sg.ok_cases ok with ⟨_,e⟩ | ⟨e,_⟩
     · exact e.symm
     · grind
 · have hpos:=ok_pos ok ha
   have hnsq:Sg.NSq x.a:=by
    rcases ok.form with ⟨h,_⟩ | ⟨_,h⟩
    · exact absurd h ha
    · exact h
   have h1:(1:Rat) / x.nm≠0:=inv_ne hn
   have ok2:=Sg.inv_ok ok hpos hnsq h1
   have hA:0<(x.inv (1 / x.nm)).a:=Rat.mul_pos hpos (Sg.sq_pos' h1)
   have hne:x.inv (1 / x.nm)≠Sg.Rl.of 0:=fun e=>by rw [e] at hA;exact absurd hA (by decide)
   have hn2:=nm_ne ok2 hne
   rw [iv_root ok hpos hn]
   refine ⟨ok2,hne,?_⟩
   rw [iv_root ok2 hA hn2]
   refine Sg.inv_inv ?_ ?_
   · unfold Sg.Rl.nm at hn ⊢;grind
   · unfold Sg.Rl.nm at hn2 ⊢;grind
theorem iv_size {x:Sg.Rl} (ok:x.Ok) (h0:x≠Sg.Rl.of 0) (zx:Rz 8 x):Rz 200 x.iv:=by
 have hn:=nm_ne ok h0
 have z3:=(zx.p.mul zx.p).sub zx.r
 by_cases ha:x.a=0
 · have hp:x.p≠0:=fun e=>hn (by unfold Sg.Rl.nm;rw [ha,e];grind)
   rw [iv_rat ha hp]
   exact ⟨zx.p.inv.up (by omega),Sz.zero 199⟩
 · rw [iv_root ok (ok_pos ok ha) hn]
   exact ⟨(zx.p.mul z3.inv).up (by omega),(zx.r.mul (z3.inv.mul z3.inv)).up (by omega)⟩
end Go.Proofs.YtpnokfgplnmjpaaGreatDoor


namespace Go.Proofs.YtpnokfgplnmjpaaGreatDoor
open Go.RowKit
attribute [local go_sem ↓] Go.wp_at_zero Go.wp_at_succ

set_option maxHeartbeats 8000000 in
set_option maxRecDepth 100000 in
theorem frac_no (w:World) {b1 d1:Bool} {m1 k1:ByteArray} (h:¬(m1.size:Int)+(k1.size:Int)≤8) (HB:∀ V,Below w.heap.size w V→Calls Tryz.prog 16 #[.agg #[.bool b1,.string m1,.bool d1,.string k1]] V (RetB V (.int .i64 ((m1.size:Int)+(k1.size:Int))))) :
  Calls Tryz.prog 26 #[.agg #[.bool b1,.string m1,.bool d1,.string k1]] w (RetB w (.bool false)):=by
 have C1:=Lib.hid HB
 clear HB 
 go_enter Tryz.func26,Tryz.ntmps26
 exact wk0

set_option maxHeartbeats 8000000 in
set_option maxRecDepth 100000 in
theorem frac_chk (w:World) {b1 d1:Bool} {m1 k1:ByteArray} {o:Bool} (h:(m1.size:Int)+(k1.size:Int)≤8) (HB:∀ V,Below w.heap.size w V→Calls Tryz.prog 16 #[.agg #[.bool b1,.string m1,.bool d1,.string k1]] V (RetB V (.int .i64 ((m1.size:Int)+(k1.size:Int))))) (HC:∀ V,Below w.heap.size w V→Calls Tryz.prog 57 #[.agg #[.bool b1,.string m1,.bool d1,.string k1]] V (RetB V (.bool o))) :
  Calls Tryz.prog 26 #[.agg #[.bool b1,.string m1,.bool d1,.string k1]] w (RetB w (.bool o)):=by
 have C1:=Lib.hid HB
 have C2:=Lib.hid HC
 clear HB HC 
 go_enter Tryz.func26,Tryz.ntmps26
 exact wk0

theorem frac_any (b1:Bool) (m1:ByteArray) (d1:Bool) (k1:ByteArray) (t1:m1.size≤140737488351232) (t2:k1.size≤140737488351232) :
  ∃ o,(∀ V,Calls Tryz.prog 26 #[.agg #[.bool b1,.string m1,.bool d1,.string k1]] V (RetB V (.bool o)))∧(o=true→d1=false∧∃ q:Rat,Rq q b1 m1 k1∧Sz 8 q):=by
 have HB:=fun (w V:World) (_:Below w.heap.size w V)=>bytes_w b1 d1 m1 k1 t1 t2 V
 by_cases h:(m1.size:Int)+(k1.size:Int)≤8
 · by_cases hp:d1=false∧∃ q,Rq q b1 m1 k1
   · obtain ⟨rfl,p,hp⟩:=hp
     exact ⟨true,fun V=>frac_chk V h (HB V) (fun V _=>rCheck_yes hp (by omega) (by omega) V),fun _=>⟨rfl,p,hp,sz8 hp (by omega) (by omega)⟩⟩
   · exact ⟨false,fun V=>frac_chk V h (HB V) (fun V _=>rCheck_no b1 m1 d1 k1 (by omega) (by omega) hp V),fun h=>by cases h⟩
 · exact ⟨false,fun V=>frac_no V h (HB V),fun h=>by cases h⟩
end Go.Proofs.YtpnokfgplnmjpaaGreatDoor


namespace Go.Proofs.YtpnokfgplnmjpaaGreatDoor
open Go.RowKit
attribute [local go_sem ↓] Go.wp_at_zero Go.wp_at_succ

set_option maxHeartbeats 8000000 in
set_option maxRecDepth 100000 in
theorem moves_no1 (w:World) {b1 d1 c1 e1 s1:Bool} {m1 k1 n1 l1:ByteArray} {b7 d7:Bool} {m7 k7:ByteArray} (HK:∀ V,Below w.heap.size w V→Calls Tryz.prog 15 #[] V (RetB V (.bool true))) (HS:∀ V,Below w.heap.size w V→Calls Tryz.prog 22 #[.agg #[.bool b1,.string m1,.bool d1,.string k1,.bool c1,.string n1,.bool e1,.string l1,.bool s1]] V (RetB V (.bool false))) :
  Calls Tryz.prog 9 #[.agg #[.bool b1,.string m1,.bool d1,.string k1,.bool c1,.string n1,.bool e1,.string l1,.bool s1],.agg #[.bool b7,.string m7,.bool d7,.string k7]] w (RetB w (.bool true)):=by
 have C1:=Lib.hid HK
 have C2:=Lib.hid HS
 clear HK HS 
 go_enter Tryz.func9,Tryz.ntmps9
 exact wk0

set_option maxHeartbeats 8000000 in
set_option maxRecDepth 100000 in
theorem moves_no2 (w:World) {b1 d1 c1 e1 s1:Bool} {m1 k1 n1 l1:ByteArray} {b7 d7:Bool} {m7 k7:ByteArray} (HK:∀ V,Below w.heap.size w V→Calls Tryz.prog 15 #[] V (RetB V (.bool true))) (HS:∀ V,Below w.heap.size w V→Calls Tryz.prog 22 #[.agg #[.bool b1,.string m1,.bool d1,.string k1,.bool c1,.string n1,.bool e1,.string l1,.bool s1]] V (RetB V (.bool true))) (HF:∀ V,Below w.heap.size w V→Calls Tryz.prog 26 #[.agg #[.bool b7,.string m7,.bool d7,.string k7]] V (RetB V (.bool false))) :
  Calls Tryz.prog 9 #[.agg #[.bool b1,.string m1,.bool d1,.string k1,.bool c1,.string n1,.bool e1,.string l1,.bool s1],.agg #[.bool b7,.string m7,.bool d7,.string k7]] w (RetB w (.bool true)):=by
 have C1:=Lib.hid HK
 have C2:=Lib.hid HS
 have C3:=Lib.hid HF
 clear HK HS HF 
 go_enter Tryz.func9,Tryz.ntmps9
 exact wk0

set_option maxHeartbeats 8000000 in
set_option maxRecDepth 100000 in
theorem moves_zero (w:World) {b2 c2 s2:Bool} {m2 k2 n2 l2:ByteArray} {b3 c3 s3:Bool} {m3 k3 n3 l3:ByteArray} {b4 c4 s4:Bool} {m4 k4 n4 l4:ByteArray} {b7 b8:Bool} {m7 k7 m8 k8:ByteArray} (HK:∀ V,Below w.heap.size w V→Calls Tryz.prog 15 #[] V (RetB V (.bool true))) (HS:∀ V,Below w.heap.size w V→Calls Tryz.prog 22 #[.agg #[.bool false,.string ⟨#[]⟩,.bool false,.string ⟨#[]⟩,.bool false,.string ⟨#[]⟩,.bool false,.string ⟨#[]⟩,.bool false]] V (RetB V (.bool true))) (HF:∀ V,Below w.heap.size w V→Calls Tryz.prog 26 #[.agg #[.bool b7,.string m7,.bool false,.string k7]] V (RetB V (.bool true))) (HN:∀ V,Below w.heap.size w V→Calls Tryz.prog 43 #[.agg #[.bool false,.string ⟨#[]⟩,.bool false,.string ⟨#[]⟩,.bool false,.string ⟨#[]⟩,.bool false,.string ⟨#[]⟩,.bool false]] V (RetB V (.agg #[.bool b2,.string m2,.bool false,.string k2,.bool c2,.string n2,.bool false,.string l2,.bool s2]))) (HH:∀ V,Below w.heap.size w V→Calls Tryz.prog 44 #[.agg #[.bool false,.string ⟨#[]⟩,.bool false,.string ⟨#[]⟩,.bool false,.string ⟨#[]⟩,.bool false,.string ⟨#[]⟩,.bool false],.agg #[.bool b7,.string m7,.bool false,.string k7]] V (RetB V (.agg #[.bool b3,.string m3,.bool false,.string k3,.bool c3,.string n3,.bool false,.string l3,.bool s3]))) (HC:∀ V,Below w.heap.size w V→Calls Tryz.prog 45 #[.agg #[.bool false,.string ⟨#[]⟩,.bool false,.string ⟨#[]⟩,.bool false,.string ⟨#[]⟩,.bool false,.string ⟨#[]⟩,.bool false],.agg #[.bool b7,.string m7,.bool false,.string k7]] V (RetB V (.agg #[.bool b4,.string m4,.bool false,.string k4,.bool c4,.string n4,.bool false,.string l4,.bool s4]))) (GN:∀ V,Below w.heap.size w V→Calls Tryz.prog 46 #[.agg #[.bool false,.string ⟨#[]⟩,.bool false,.string ⟨#[]⟩,.bool false,.string ⟨#[]⟩,.bool false,.string ⟨#[]⟩,.bool false]] V (RetB V (.agg #[.bool b2,.string m2,.bool false,.string k2,.bool c2,.string n2,.bool false,.string l2,.bool s2]))) (GH:∀ V,Below w.heap.size w V→Calls Tryz.prog 47 #[.agg #[.bool false,.string ⟨#[]⟩,.bool false,.string ⟨#[]⟩,.bool false,.string ⟨#[]⟩,.bool false,.string ⟨#[]⟩,.bool false],.agg #[.bool b7,.string m7,.bool false,.string k7]] V (RetB V (.agg #[.bool b3,.string m3,.bool false,.string k3,.bool c3,.string n3,.bool false,.string l3,.bool s3]))) (GC:∀ V,Below w.heap.size w V→Calls Tryz.prog 48 #[.agg #[.bool false,.string ⟨#[]⟩,.bool false,.string ⟨#[]⟩,.bool false,.string ⟨#[]⟩,.bool false,.string ⟨#[]⟩,.bool false],.agg #[.bool b7,.string m7,.bool false,.string k7]] V (RetB V (.agg #[.bool b4,.string m4,.bool false,.string k4,.bool c4,.string n4,.bool false,.string l4,.bool s4]))) (HNN:∀ V,Below w.heap.size w V→Calls Tryz.prog 43 #[.agg #[.bool b2,.string m2,.bool false,.string k2,.bool c2,.string n2,.bool false,.string l2,.bool s2]] V (RetB V (.agg #[.bool false,.string ⟨#[]⟩,.bool false,.string ⟨#[]⟩,.bool false,.string ⟨#[]⟩,.bool false,.string ⟨#[]⟩,.bool false]))) (GR:∀ V,Below w.heap.size w V→Calls Tryz.prog 49 #[.agg #[.bool b7,.string m7,.bool false,.string k7]] V (RetB V (.agg #[.bool b8,.string m8,.bool false,.string k8]))) (HB:∀ V,Below w.heap.size w V→Calls Tryz.prog 44 #[.agg #[.bool b3,.string m3,.bool false,.string k3,.bool c3,.string n3,.bool false,.string l3,.bool s3],.agg #[.bool b8,.string m8,.bool false,.string k8]] V (RetB V (.agg #[.bool false,.string ⟨#[]⟩,.bool false,.string ⟨#[]⟩,.bool false,.string ⟨#[]⟩,.bool false,.string ⟨#[]⟩,.bool false]))) (HI:∀ V,Below w.heap.size w V→Calls Tryz.prog 50 #[.agg #[.bool false,.string ⟨#[]⟩,.bool false,.string ⟨#[]⟩,.bool false,.string ⟨#[]⟩,.bool false,.string ⟨#[]⟩,.bool false]] V (RetB V (.tuple #[.agg #[.bool false,.string ⟨#[]⟩,.bool false,.string ⟨#[]⟩,.bool false,.string ⟨#[]⟩,.bool false,.string ⟨#[]⟩,.bool false],.int .i64 6]))) :
  Calls Tryz.prog 9 #[.agg #[.bool false,.string ⟨#[]⟩,.bool false,.string ⟨#[]⟩,.bool false,.string ⟨#[]⟩,.bool false,.string ⟨#[]⟩,.bool false],.agg #[.bool b7,.string m7,.bool false,.string k7]] w (RetB w (.bool true)):=by
 have C1:=Lib.hid HK
 have C2:=Lib.hid HS
 have C3:=Lib.hid HF
 have C4:=Lib.hid HN
 have C5:=Lib.hid HH
 have C6:=Lib.hid HC
 have C7:=Lib.hid GN
 have C8:=Lib.hid GH
 have C9:=Lib.hid GC
 have C10:=Lib.hid HNN
 have C11:=Lib.hid GR
 have C12:=Lib.hid HB
 have C13:=Lib.hid HI
 have U1:Hid (∀ {p:Prop} (h:p:=by
  (fail_if_success (go_not_at_region 3))
  (fail_if_success (have:=hLL))
  obtain ⟨LL,hLL⟩:=lexi X.out
  go_cut [5,6,7] (fun slot0 slot1 slot2 wx=>∃ g0 g1 g2,slot0=.pointer (some ⟨g0,0,none⟩)∧slot1=.pointer (some ⟨g1,0,none⟩)∧slot2=.pointer (some ⟨g2,0,none⟩)∧Sb w (LL++[(g0,#[.bool b2,.string m2,.bool false,.string k2,.bool c2,.string n2,.bool false,.string l2,.bool s2],27),(g1,#[.bool b3,.string m3,.bool false,.string k3,.bool c3,.string n3,.bool false,.string l3,.bool s3],27),(g2,#[.bool b4,.string m4,.bool false,.string k4,.bool c4,.string n4,.bool false,.string l4,.bool s4],27)]) [] wx)
  focus
   refine wp_region_any (by kernel_rfl) ?_
   have X:=Lib.hid X.out.drew
   obtain ⟨W0,hV⟩:=wexi X.out
   rw [show ∀ v:World,{ v with drawn:=v.drawn+1 }=v.drew from fun _=>rfl,←hV]
   rw [←hV] at X
   clear hV
   refine rg_run (ef:=[.val (.agg #[.bool false,.string ⟨#[]⟩,.bool false,.string ⟨#[]⟩,.bool false,.string ⟨#[]⟩,.bool false,.string ⟨#[]⟩,.bool false]),.val (.agg #[.bool b2,.string m2,.bool false,.string k2,.bool c2,.string n2,.bool false,.string l2,.bool s2]),.val (.agg #[.bool false,.string ⟨#[]⟩,.bool false,.string ⟨#[]⟩,.bool false,.string ⟨#[]⟩,.bool false,.string ⟨#[]⟩,.bool false]),.val (.agg #[.bool b7,.string m7,.bool false,.string k7]),.val (.agg #[.bool b3,.string m3,.bool false,.string k3,.bool c3,.string n3,.bool false,.string l3,.bool s3]),.val (.agg #[.bool false,.string ⟨#[]⟩,.bool false,.string ⟨#[]⟩,.bool false,.string ⟨#[]⟩,.bool false,.string ⟨#[]⟩,.bool false]),.val (.agg #[.bool b7,.string m7,.bool false,.string k7]),.val (.agg #[.bool b4,.string m4,.bool false,.string k4,.bool c4,.string n4,.bool false,.string l4,.bool s4]),.new #[.bool false,.string ⟨#[]⟩,.bool false,.string ⟨#[]⟩,.bool false,.string ⟨#[]⟩,.bool false,.string ⟨#[]⟩,.bool false] 27,.new #[.bool false,.string ⟨#[]⟩,.bool false,.string ⟨#[]⟩,.bool false,.string ⟨#[]⟩,.bool false,.string ⟨#[]⟩,.bool false] 27,.new #[.bool false,.string ⟨#[]⟩,.bool false,.string ⟨#[]⟩,.bool false,.string ⟨#[]⟩,.bool false,.string ⟨#[]⟩,.bool false] 27]) (ds:=[25,26,27,28,29,30,31,32,5,6,7]) (by kernel_rfl) (stays_none (by simp)) (by decide) rfl (by intro d hd;simp at hd ⊢;omega) (fun i d o hd ho listed a w1 hR hdep K hK=>?_) 3 (fun a w1 hR=>?_)
   · have X:=Lib.hid (X.out.next hR.bel)
     have HKt:=Lib.hid hK
     have HDp:=Lib.hid hdep
     have sl2:a.tmps.getD 2 undef=.pointer (some ⟨w.heap.size,0,none⟩):=hR.keep 2 (by decide)
     have sl3:a.tmps.getD 3 undef=.pointer (some ⟨w.heap.size+1,0,none⟩):=hR.keep 3 (by decide)
     have HRg:=Lib.hid hR
     clear hK hdep hR
     rcases i with _ | _ | _ | _ | _ | _ | _ | _ | _ | _ | _ | i
     · cases hd
       cases ho
       obtain ⟨x00,x01,x02,x03,x04,x05,x06,x07,x08⟩:=X.out.c9 (i:=0) rfl
       obtain ⟨x10,x11,x12,x13⟩:=X.out.c4 (i:=1) rfl
       go_simp
       exact HKt.out _ _ (Or.inl ⟨rfl,Below.refl _ _⟩)
     · cases hd
       cases ho
       have dd0:a.tmps.getD 25 undef=.agg #[.bool false,.string ⟨#[]⟩,.bool false,.string ⟨#[]⟩,.bool false,.string ⟨#[]⟩,.bool false,.string ⟨#[]⟩,.bool false]:=HRg.out.val 0 _ (HDp.out 0 (by decide)) rfl
       go_simp
       (go_at_call 43;refine (C4.out _ X.out.bel).mono ?_;rintro e u ⟨rfl,hb9⟩)
       try go_wp2_with fail
       exact HKt.out _ _ (Or.inl ⟨rfl,hb9⟩)
     · cases hd
       cases ho
       obtain ⟨x00,x01,x02,x03,x04,x05,x06,x07,x08⟩:=X.out.c9 (i:=0) rfl
       obtain ⟨x10,x11,x12,x13⟩:=X.out.c4 (i:=1) rfl
       go_simp
       exact HKt.out _ _ (Or.inl ⟨rfl,Below.refl _ _⟩)
     · cases hd
       cases ho
       obtain ⟨x00,x01,x02,x03,x04,x05,x06,x07,x08⟩:=X.out.c9 (i:=0) rfl
       obtain ⟨x10,x11,x12,x13⟩:=X.out.c4 (i:=1) rfl
       go_simp
       exact HKt.out _ _ (Or.inl ⟨rfl,Below.refl _ _⟩)
     · cases hd
       cases ho
       have dd1:a.tmps.getD 26 undef=.agg #[.bool b2,.string m2,.bool false,.string k2,.bool c2,.string n2,.bool false,.string l2,.bool s2]:=HRg.out.val 1 _ (HDp.out 1 (by decide)) rfl
       have dd2:a.tmps.getD 27 undef=.agg #[.bool false,.string ⟨#[]⟩,.bool false,.string ⟨#[]⟩,.bool false,.string ⟨#[]⟩,.bool false,.string ⟨#[]⟩,.bool false]:=HRg.out.val 2 _ (HDp.out 2 (by decide)) rfl
       have dd3:a.tmps.getD 28 undef=.agg #[.bool b7,.string m7,.bool false,.string k7]:=HRg.out.val 3 _ (HDp.out 3 (by decide)) rfl
       go_simp
       (go_at_call 44;refine (C5.out _ X.out.bel).mono ?_;rintro e u ⟨rfl,hb9⟩)
       try go_wp2_with fail
       exact HKt.out _ _ (Or.inl ⟨rfl,hb9⟩)
     · cases hd
       cases ho
       obtain ⟨x00,x01,x02,x03,x04,x05,x06,x07,x08⟩:=X.out.c9 (i:=0) rfl
       obtain ⟨x10,x11,x12,x13⟩:=X.out.c4 (i:=1) rfl
       go_simp
       exact HKt.out _ _ (Or.inl ⟨rfl,Below.refl _ _⟩)
     · cases hd
       cases ho
       obtain ⟨x00,x01,x02,x03,x04,x05,x06,x07,x08⟩:=X.out.c9 (i:=0) rfl
       obtain ⟨x10,x11,x12,x13⟩:=X.out.c4 (i:=1) rfl
       go_simp
       exact HKt.out _ _ (Or.inl ⟨rfl,Below.refl _ _⟩)
     · cases hd
       cases ho
       have dd4:a.tmps.getD 29 undef=.agg #[.bool b3,.string m3,.bool false,.string k3,.bool c3,.string n3,.bool false,.string l3,.bool s3]:=HRg.out.val 4 _ (HDp.out 4 (by decide)) rfl
       have dd5:a.tmps.getD 30 undef=.agg #[.bool false,.string ⟨#[]⟩,.bool false,.string ⟨#[]⟩,.bool false,.string ⟨#[]⟩,.bool false,.string ⟨#[]⟩,.bool false]:=HRg.out.val 5 _ (HDp.out 5 (by decide)) rfl
       have dd6:a.tmps.getD 31 undef=.agg #[.bool b7,.string m7,.bool false,.string k7]:=HRg.out.val 6 _ (HDp.out 6 (by decide)) rfl
       go_simp
       (go_at_call 45;refine (C6.out _ X.out.bel).mono ?_;rintro e u ⟨rfl,hb9⟩)
       try go_wp2_with fail
       exact HKt.out _ _ (Or.inl ⟨rfl,hb9⟩)
     · cases hd
       cases ho
       go_simp
       exact HKt.out _ _ (Or.inr (Or.inl ⟨_,_,rfl,rfl,rfl⟩))
     · cases hd
       cases ho
       go_simp
       exact HKt.out _ _ (Or.inr (Or.inl ⟨_,_,rfl,rfl,rfl⟩))
     · cases hd
       cases ho
       go_simp
       exact HKt.out _ _ (Or.inr (Or.inl ⟨_,_,rfl,rfl,rfl⟩))
     · cases hd
   obtain ⟨g8,hg8,lg8,kg8⟩:=hR.new 8 _ _ (by rfl) rfl
   obtain ⟨g9,hg9,lg9,kg9⟩:=hR.new 9 _ _ (by rfl) rfl
   obtain ⟨g10,hg10,lg10,kg10⟩:=hR.new 10 _ _ (by rfl) rfl
   have vv0:a.tmps.getD 25 undef=.agg #[.bool false,.string ⟨#[]⟩,.bool false,.string ⟨#[]⟩,.bool false,.string ⟨#[]⟩,.bool false,.string ⟨#[]⟩,.bool false]:=hR.val 0 _ (by rfl) rfl
   have vv1:a.tmps.getD 26 undef=.agg #[.bool b2,.string m2,.bool false,.string k2,.bool c2,.string n2,.bool false,.string l2,.bool s2]:=hR.val 1 _ (by rfl) rfl
   have vv2:a.tmps.getD 27 undef=.agg #[.bool false,.string ⟨#[]⟩,.bool false,.string ⟨#[]⟩,.bool false,.string ⟨#[]⟩,.bool false,.string ⟨#[]⟩,.bool false]:=hR.val 2 _ (by rfl) rfl
   have vv3:a.tmps.getD 28 undef=.agg #[.bool b7,.string m7,.bool false,.string k7]:=hR.val 3 _ (by rfl) rfl
   have vv4:a.tmps.getD 29 undef=.agg #[.bool b3,.string m3,.bool false,.string k3,.bool c3,.string n3,.bool false,.string l3,.bool s3]:=hR.val 4 _ (by rfl) rfl
   have vv5:a.tmps.getD 30 undef=.agg #[.bool false,.string ⟨#[]⟩,.bool false,.string ⟨#[]⟩,.bool false,.string ⟨#[]⟩,.bool false,.string ⟨#[]⟩,.bool false]:=hR.val 5 _ (by rfl) rfl
   have vv6:a.tmps.getD 31 undef=.agg #[.bool b7,.string m7,.bool false,.string k7]:=hR.val 6 _ (by rfl) rfl
   have vv7:a.tmps.getD 32 undef=.agg #[.bool b4,.string m4,.bool false,.string k4,.bool c4,.string n4,.bool false,.string l4,.bool s4]:=hR.val 7 _ (by rfl) rfl
   replace hg8:a.tmps.getD 5 undef=.pointer (some ⟨g8,0,none⟩):=hg8
   replace hg9:a.tmps.getD 6 undef=.pointer (some ⟨g9,0,none⟩):=hg9
   replace hg10:a.tmps.getD 7 undef=.pointer (some ⟨g10,0,none⟩):=hg10
   have hne89:g8≠g9:=fun e=>hR.ne 8 9 _ _ _ _ g8 (by decide) (by rfl) (by rfl) rfl rfl hg8 (by rw [e];exact hg9)
   have hne810:g8≠g10:=fun e=>hR.ne 8 10 _ _ _ _ g8 (by decide) (by rfl) (by rfl) rfl rfl hg8 (by rw [e];exact hg10)
   have hne910:g9≠g10:=fun e=>hR.ne 9 10 _ _ _ _ g9 (by decide) (by rfl) (by rfl) rfl rfl hg9 (by rw [e];exact hg10)
   have X:=Lib.hid (X.out.add3 hR.bel lg8 kg8 lg9 kg9 lg10 kg10 hne89 hne810 hne910)
   have ha:=hR.act
   simp only [List.foldl_cons,List.foldl_nil,seti,set0,setS,vv0,vv1,vv2,vv3,vv4,vv5,vv6,vv7,hg8,hg9,hg10] at ha
   subst ha
   clear hR vv0 vv1 vv2 vv3 vv4 vv5 vv6 vv7 hg8 lg8 kg8 hg9 lg9 kg9 hg10 lg10 kg10
   refine wpAny_of_late (S:=fun _=>True) (L:=[]) _ _ _ _ ?_
   refine wpLate_one (i:=11) (o:=⟨none,_,_,_,_,_⟩) (by kernel_rfl) rfl (fun K hK=>?_)
   obtain ⟨x0,x1,x2,x3,x4,x5,x6,x7,x8⟩:=X.out.c9 (i:=2) rfl
   obtain ⟨y0,y1,y2,y3,y4,y5,y6,y7,y8⟩:=X.out.f9 (i:=2) rfl
   have X:=Lib.hid (X.out.set9 (i:=2) rfl (.bool b2) (.string m2) (.bool false) (.string k2) (.bool c2) (.string n2) (.bool false) (.string l2) (.bool s2))
   go_simp
   refine hK.out _ _ (Or.inr fun _=>trivial) ?_
   clear hK K x0 x1 x2 x3 x4 x5 x6 x7 x8 y0 y1 y2 y3 y4 y5 y6 y7 y8
   obtain ⟨W11,hV⟩:=wexi X.out
   rw [←hV] at X ⊢
   clear hV
   try simp only [Act.put]
   refine wpLate_one (i:=12) (o:=⟨none,_,_,_,_,_⟩) (by kernel_rfl) rfl (fun K hK=>?_)
   obtain ⟨x0,x1,x2,x3,x4,x5,x6,x7,x8⟩:=X.out.c9 (i:=3) rfl
   obtain ⟨y0,y1,y2,y3,y4,y5,y6,y7,y8⟩:=X.out.f9 (i:=3) rfl
   have X:=Lib.hid (X.out.set9 (i:=3) rfl (.bool b3) (.string m3) (.bool false) (.string k3) (.bool c3) (.string n3) (.bool false) (.string l3) (.bool s3))
   go_simp
   refine hK.out _ _ (Or.inr fun _=>trivial) ?_
   clear hK K x0 x1 x2 x3 x4 x5 x6 x7 x8 y0 y1 y2 y3 y4 y5 y6 y7 y8
   obtain ⟨W12,hV⟩:=wexi X.out
   rw [←hV] at X ⊢
   clear hV
   try simp only [Act.put]
   refine wpLate_one (i:=13) (o:=⟨none,_,_,_,_,_⟩) (by kernel_rfl) rfl (fun K hK=>?_)
   obtain ⟨x0,x1,x2,x3,x4,x5,x6,x7,x8⟩:=X.out.c9 (i:=4) rfl
   obtain ⟨y0,y1,y2,y3,y4,y5,y6,y7,y8⟩:=X.out.f9 (i:=4) rfl
   have X:=Lib.hid (X.out.set9 (i:=4) rfl (.bool b4) (.string m4) (.bool false) (.string k4) (.bool c4) (.string n4) (.bool false) (.string l4) (.bool s4))
   go_simp
   refine hK.out _ _ (Or.inr fun _=>trivial) ?_
   clear hK K x0 x1 x2 x3 x4 x5 x6 x7 x8 y0 y1 y2 y3 y4 y5 y6 y7 y8
   obtain ⟨W13,hV⟩:=wexi X.out
   rw [←hV] at X ⊢
   clear hV
   try simp only [Act.put]
   refine wpLate_done (by kernel_rfl) ?_ _
   go_wp2_with fail
   go_meet
   subst hLL
   exact ⟨_,_,_,rfl,rfl,rfl,X.out⟩
  exact wkc),p):=@fun _ h=>h
 clear HK HS HF HN HH HC GN GH GC HNN GR HB HI 
 go_enter Tryz.func9,Tryz.ntmps9
 exact wk0

set_option maxHeartbeats 8000000 in
set_option maxRecDepth 100000 in
theorem moves_p (w:World) {b1 c1 s1:Bool} {m1 k1 n1 l1:ByteArray} {b2 c2 s2:Bool} {m2 k2 n2 l2:ByteArray} {b3 c3 s3:Bool} {m3 k3 n3 l3:ByteArray} {b4 c4 s4:Bool} {m4 k4 n4 l4:ByteArray} {b5 c5 s5:Bool} {m5 k5 n5 l5:ByteArray} {b7 b8:Bool} {m7 k7 m8 k8:ByteArray} (hn:m1≠⟨#[]⟩) (HK:∀ V,Below w.heap.size w V→Calls Tryz.prog 15 #[] V (RetB V (.bool true))) (HS:∀ V,Below w.heap.size w V→Calls Tryz.prog 22 #[.agg #[.bool b1,.string m1,.bool false,.string k1,.bool c1,.string n1,.bool false,.string l1,.bool s1]] V (RetB V (.bool true))) (HF:∀ V,Below w.heap.size w V→Calls Tryz.prog 26 #[.agg #[.bool b7,.string m7,.bool false,.string k7]] V (RetB V (.bool true))) (HN:∀ V,Below w.heap.size w V→Calls Tryz.prog 43 #[.agg #[.bool b1,.string m1,.bool false,.string k1,.bool c1,.string n1,.bool false,.string l1,.bool s1]] V (RetB V (.agg #[.bool b2,.string m2,.bool false,.string k2,.bool c2,.string n2,.bool false,.string l2,.bool s2]))) (HH:∀ V,Below w.heap.size w V→Calls Tryz.prog 44 #[.agg #[.bool b1,.string m1,.bool false,.string k1,.bool c1,.string n1,.bool false,.string l1,.bool s1],.agg #[.bool b7,.string m7,.bool false,.string k7]] V (RetB V (.agg #[.bool b3,.string m3,.bool false,.string k3,.bool c3,.string n3,.bool false,.string l3,.bool s3]))) (HC:∀ V,Below w.heap.size w V→Calls Tryz.prog 45 #[.agg #[.bool b1,.string m1,.bool false,.string k1,.bool c1,.string n1,.bool false,.string l1,.bool s1],.agg #[.bool b7,.string m7,.bool false,.string k7]] V (RetB V (.agg #[.bool b4,.string m4,.bool false,.string k4,.bool c4,.string n4,.bool false,.string l4,.bool s4]))) (GN:∀ V,Below w.heap.size w V→Calls Tryz.prog 46 #[.agg #[.bool b1,.string m1,.bool false,.string k1,.bool c1,.string n1,.bool false,.string l1,.bool s1]] V (RetB V (.agg #[.bool b2,.string m2,.bool false,.string k2,.bool c2,.string n2,.bool false,.string l2,.bool s2]))) (GH:∀ V,Below w.heap.size w V→Calls Tryz.prog 47 #[.agg #[.bool b1,.string m1,.bool false,.string k1,.bool c1,.string n1,.bool false,.string l1,.bool s1],.agg #[.bool b7,.string m7,.bool false,.string k7]] V (RetB V (.agg #[.bool b3,.string m3,.bool false,.string k3,.bool c3,.string n3,.bool false,.string l3,.bool s3]))) (GC:∀ V,Below w.heap.size w V→Calls Tryz.prog 48 #[.agg #[.bool b1,.string m1,.bool false,.string k1,.bool c1,.string n1,.bool false,.string l1,.bool s1],.agg #[.bool b7,.string m7,.bool false,.string k7]] V (RetB V (.agg #[.bool b4,.string m4,.bool false,.string k4,.bool c4,.string n4,.bool false,.string l4,.bool s4]))) (HNN:∀ V,Below w.heap.size w V→Calls Tryz.prog 43 #[.agg #[.bool b2,.string m2,.bool false,.string k2,.bool c2,.string n2,.bool false,.string l2,.bool s2]] V (RetB V (.agg #[.bool b1,.string m1,.bool false,.string k1,.bool c1,.string n1,.bool false,.string l1,.bool s1]))) (GR:∀ V,Below w.heap.size w V→Calls Tryz.prog 49 #[.agg #[.bool b7,.string m7,.bool false,.string k7]] V (RetB V (.agg #[.bool b8,.string m8,.bool false,.string k8]))) (HB:∀ V,Below w.heap.size w V→Calls Tryz.prog 44 #[.agg #[.bool b3,.string m3,.bool false,.string k3,.bool c3,.string n3,.bool false,.string l3,.bool s3],.agg #[.bool b8,.string m8,.bool false,.string k8]] V (RetB V (.agg #[.bool b1,.string m1,.bool false,.string k1,.bool c1,.string n1,.bool false,.string l1,.bool s1]))) (HI:∀ V,Below w.heap.size w V→Calls Tryz.prog 50 #[.agg #[.bool b1,.string m1,.bool false,.string k1,.bool c1,.string n1,.bool false,.string l1,.bool s1]] V (RetB V (.tuple #[.agg #[.bool b5,.string m5,.bool false,.string k5,.bool c5,.string n5,.bool false,.string l5,.bool s5],.int .i64 0]))) (GI:∀ V,Below w.heap.size w V→Calls Tryz.prog 51 #[.agg #[.bool b1,.string m1,.bool false,.string k1,.bool c1,.string n1,.bool false,.string l1,.bool s1]] V (RetB V (.agg #[.bool b5,.string m5,.bool false,.string k5,.bool c5,.string n5,.bool false,.string l5,.bool s5]))) (HJ:∀ V,Below w.heap.size w V→Calls Tryz.prog 50 #[.agg #[.bool b5,.string m5,.bool false,.string k5,.bool c5,.string n5,.bool false,.string l5,.bool s5]] V (RetB V (.tuple #[.agg #[.bool b1,.string m1,.bool false,.string k1,.bool c1,.string n1,.bool false,.string l1,.bool s1],.int .i64 0]))) :
  Calls Tryz.prog 9 #[.agg #[.bool b1,.string m1,.bool false,.string k1,.bool c1,.string n1,.bool false,.string l1,.bool s1],.agg #[.bool b7,.string m7,.bool false,.string k7]] w (RetB w (.bool true)):=by
 obtain ⟨e1,e2⟩:=str_ne hn
 have e3:=empty_no (size_pos hn)
 clear hn
 have C1:=Lib.hid HK
 have C2:=Lib.hid HS
 have C3:=Lib.hid HF
 have C4:=Lib.hid HN
 have C5:=Lib.hid HH
 have C6:=Lib.hid HC
 have C7:=Lib.hid GN
 have C8:=Lib.hid GH
 have C9:=Lib.hid GC
 have C10:=Lib.hid HNN
 have C11:=Lib.hid GR
 have C12:=Lib.hid HB
 have C13:=Lib.hid HI
 have C14:=Lib.hid GI
 have C15:=Lib.hid HJ
 have U1:Hid (∀ {p:Prop} (h:p:=by
  (fail_if_success (go_not_at_region 3))
  (fail_if_success (have:=hLL))
  obtain ⟨LL,hLL⟩:=lexi X.out
  go_cut [5,6,7] (fun slot0 slot1 slot2 wx=>∃ g0 g1 g2,slot0=.pointer (some ⟨g0,0,none⟩)∧slot1=.pointer (some ⟨g1,0,none⟩)∧slot2=.pointer (some ⟨g2,0,none⟩)∧Sb w (LL++[(g0,#[.bool b2,.string m2,.bool false,.string k2,.bool c2,.string n2,.bool false,.string l2,.bool s2],27),(g1,#[.bool b3,.string m3,.bool false,.string k3,.bool c3,.string n3,.bool false,.string l3,.bool s3],27),(g2,#[.bool b4,.string m4,.bool false,.string k4,.bool c4,.string n4,.bool false,.string l4,.bool s4],27)]) [] wx)
  focus
   refine wp_region_any (by kernel_rfl) ?_
   have X:=Lib.hid X.out.drew
   obtain ⟨W0,hV⟩:=wexi X.out
   rw [show ∀ v:World,{ v with drawn:=v.drawn+1 }=v.drew from fun _=>rfl,←hV]
   rw [←hV] at X
   clear hV
   refine rg_run (ef:=[.val (.agg #[.bool b1,.string m1,.bool false,.string k1,.bool c1,.string n1,.bool false,.string l1,.bool s1]),.val (.agg #[.bool b2,.string m2,.bool false,.string k2,.bool c2,.string n2,.bool false,.string l2,.bool s2]),.val (.agg #[.bool b1,.string m1,.bool false,.string k1,.bool c1,.string n1,.bool false,.string l1,.bool s1]),.val (.agg #[.bool b7,.string m7,.bool false,.string k7]),.val (.agg #[.bool b3,.string m3,.bool false,.string k3,.bool c3,.string n3,.bool false,.string l3,.bool s3]),.val (.agg #[.bool b1,.string m1,.bool false,.string k1,.bool c1,.string n1,.bool false,.string l1,.bool s1]),.val (.agg #[.bool b7,.string m7,.bool false,.string k7]),.val (.agg #[.bool b4,.string m4,.bool false,.string k4,.bool c4,.string n4,.bool false,.string l4,.bool s4]),.new #[.bool false,.string ⟨#[]⟩,.bool false,.string ⟨#[]⟩,.bool false,.string ⟨#[]⟩,.bool false,.string ⟨#[]⟩,.bool false] 27,.new #[.bool false,.string ⟨#[]⟩,.bool false,.string ⟨#[]⟩,.bool false,.string ⟨#[]⟩,.bool false,.string ⟨#[]⟩,.bool false] 27,.new #[.bool false,.string ⟨#[]⟩,.bool false,.string ⟨#[]⟩,.bool false,.string ⟨#[]⟩,.bool false,.string ⟨#[]⟩,.bool false] 27]) (ds:=[25,26,27,28,29,30,31,32,5,6,7]) (by kernel_rfl) (stays_none (by simp)) (by decide) rfl (by intro d hd;simp at hd ⊢;omega) (fun i d o hd ho listed a w1 hR hdep K hK=>?_) 3 (fun a w1 hR=>?_)
   · have X:=Lib.hid (X.out.next hR.bel)
     have HKt:=Lib.hid hK
     have HDp:=Lib.hid hdep
     have sl2:a.tmps.getD 2 undef=.pointer (some ⟨w.heap.size,0,none⟩):=hR.keep 2 (by decide)
     have sl3:a.tmps.getD 3 undef=.pointer (some ⟨w.heap.size+1,0,none⟩):=hR.keep 3 (by decide)
     have HRg:=Lib.hid hR
     clear hK hdep hR
     rcases i with _ | _ | _ | _ | _ | _ | _ | _ | _ | _ | _ | i
     · cases hd
       cases ho
       obtain ⟨x00,x01,x02,x03,x04,x05,x06,x07,x08⟩:=X.out.c9 (i:=0) rfl
       obtain ⟨x10,x11,x12,x13⟩:=X.out.c4 (i:=1) rfl
       go_simp
       exact HKt.out _ _ (Or.inl ⟨rfl,Below.refl _ _⟩)
     · cases hd
       cases ho
       have dd0:a.tmps.getD 25 undef=.agg #[.bool b1,.string m1,.bool false,.string k1,.bool c1,.string n1,.bool false,.string l1,.bool s1]:=HRg.out.val 0 _ (HDp.out 0 (by decide)) rfl
       go_simp
       (go_at_call 43;refine (C4.out _ X.out.bel).mono ?_;rintro e u ⟨rfl,hb9⟩)
       try go_wp2_with fail
       exact HKt.out _ _ (Or.inl ⟨rfl,hb9⟩)
     · cases hd
       cases ho
       obtain ⟨x00,x01,x02,x03,x04,x05,x06,x07,x08⟩:=X.out.c9 (i:=0) rfl
       obtain ⟨x10,x11,x12,x13⟩:=X.out.c4 (i:=1) rfl
       go_simp
       exact HKt.out _ _ (Or.inl ⟨rfl,Below.refl _ _⟩)
     · cases hd
       cases ho
       obtain ⟨x00,x01,x02,x03,x04,x05,x06,x07,x08⟩:=X.out.c9 (i:=0) rfl
       obtain ⟨x10,x11,x12,x13⟩:=X.out.c4 (i:=1) rfl
       go_simp
       exact HKt.out _ _ (Or.inl ⟨rfl,Below.refl _ _⟩)
     · cases hd
       cases ho
       have dd1:a.tmps.getD 26 undef=.agg #[.bool b2,.string m2,.bool false,.string k2,.bool c2,.string n2,.bool false,.string l2,.bool s2]:=HRg.out.val 1 _ (HDp.out 1 (by decide)) rfl
       have dd2:a.tmps.getD 27 undef=.agg #[.bool b1,.string m1,.bool false,.string k1,.bool c1,.string n1,.bool false,.string l1,.bool s1]:=HRg.out.val 2 _ (HDp.out 2 (by decide)) rfl
       have dd3:a.tmps.getD 28 undef=.agg #[.bool b7,.string m7,.bool false,.string k7]:=HRg.out.val 3 _ (HDp.out 3 (by decide)) rfl
       go_simp
       (go_at_call 44;refine (C5.out _ X.out.bel).mono ?_;rintro e u ⟨rfl,hb9⟩)
       try go_wp2_with fail
       exact HKt.out _ _ (Or.inl ⟨rfl,hb9⟩)
     · cases hd
       cases ho
       obtain ⟨x00,x01,x02,x03,x04,x05,x06,x07,x08⟩:=X.out.c9 (i:=0) rfl
       obtain ⟨x10,x11,x12,x13⟩:=X.out.c4 (i:=1) rfl
       go_simp
       exact HKt.out _ _ (Or.inl ⟨rfl,Below.refl _ _⟩)
     · cases hd
       cases ho
       obtain ⟨x00,x01,x02,x03,x04,x05,x06,x07,x08⟩:=X.out.c9 (i:=0) rfl
       obtain ⟨x10,x11,x12,x13⟩:=X.out.c4 (i:=1) rfl
       go_simp
       exact HKt.out _ _ (Or.inl ⟨rfl,Below.refl _ _⟩)
     · cases hd
       cases ho
       have dd4:a.tmps.getD 29 undef=.agg #[.bool b3,.string m3,.bool false,.string k3,.bool c3,.string n3,.bool false,.string l3,.bool s3]:=HRg.out.val 4 _ (HDp.out 4 (by decide)) rfl
       have dd5:a.tmps.getD 30 undef=.agg #[.bool b1,.string m1,.bool false,.string k1,.bool c1,.string n1,.bool false,.string l1,.bool s1]:=HRg.out.val 5 _ (HDp.out 5 (by decide)) rfl
       have dd6:a.tmps.getD 31 undef=.agg #[.bool b7,.string m7,.bool false,.string k7]:=HRg.out.val 6 _ (HDp.out 6 (by decide)) rfl
       go_simp
       (go_at_call 45;refine (C6.out _ X.out.bel).mono ?_;rintro e u ⟨rfl,hb9⟩)
       try go_wp2_with fail
       exact HKt.out _ _ (Or.inl ⟨rfl,hb9⟩)
     · cases hd
       cases ho
       go_simp
       exact HKt.out _ _ (Or.inr (Or.inl ⟨_,_,rfl,rfl,rfl⟩))
     · cases hd
       cases ho
       go_simp
       exact HKt.out _ _ (Or.inr (Or.inl ⟨_,_,rfl,rfl,rfl⟩))
     · cases hd
       cases ho
       go_simp
       exact HKt.out _ _ (Or.inr (Or.inl ⟨_,_,rfl,rfl,rfl⟩))
     · cases hd
   obtain ⟨g8,hg8,lg8,kg8⟩:=hR.new 8 _ _ (by rfl) rfl
   obtain ⟨g9,hg9,lg9,kg9⟩:=hR.new 9 _ _ (by rfl) rfl
   obtain ⟨g10,hg10,lg10,kg10⟩:=hR.new 10 _ _ (by rfl) rfl
   have vv0:a.tmps.getD 25 undef=.agg #[.bool b1,.string m1,.bool false,.string k1,.bool c1,.string n1,.bool false,.string l1,.bool s1]:=hR.val 0 _ (by rfl) rfl
   have vv1:a.tmps.getD 26 undef=.agg #[.bool b2,.string m2,.bool false,.string k2,.bool c2,.string n2,.bool false,.string l2,.bool s2]:=hR.val 1 _ (by rfl) rfl
   have vv2:a.tmps.getD 27 undef=.agg #[.bool b1,.string m1,.bool false,.string k1,.bool c1,.string n1,.bool false,.string l1,.bool s1]:=hR.val 2 _ (by rfl) rfl
   have vv3:a.tmps.getD 28 undef=.agg #[.bool b7,.string m7,.bool false,.string k7]:=hR.val 3 _ (by rfl) rfl
   have vv4:a.tmps.getD 29 undef=.agg #[.bool b3,.string m3,.bool false,.string k3,.bool c3,.string n3,.bool false,.string l3,.bool s3]:=hR.val 4 _ (by rfl) rfl
   have vv5:a.tmps.getD 30 undef=.agg #[.bool b1,.string m1,.bool false,.string k1,.bool c1,.string n1,.bool false,.string l1,.bool s1]:=hR.val 5 _ (by rfl) rfl
   have vv6:a.tmps.getD 31 undef=.agg #[.bool b7,.string m7,.bool false,.string k7]:=hR.val 6 _ (by rfl) rfl
   have vv7:a.tmps.getD 32 undef=.agg #[.bool b4,.string m4,.bool false,.string k4,.bool c4,.string n4,.bool false,.string l4,.bool s4]:=hR.val 7 _ (by rfl) rfl
   replace hg8:a.tmps.getD 5 undef=.pointer (some ⟨g8,0,none⟩):=hg8
   replace hg9:a.tmps.getD 6 undef=.pointer (some ⟨g9,0,none⟩):=hg9
   replace hg10:a.tmps.getD 7 undef=.pointer (some ⟨g10,0,none⟩):=hg10
   have hne89:g8≠g9:=fun e=>hR.ne 8 9 _ _ _ _ g8 (by decide) (by rfl) (by rfl) rfl rfl hg8 (by rw [e];exact hg9)
   have hne810:g8≠g10:=fun e=>hR.ne 8 10 _ _ _ _ g8 (by decide) (by rfl) (by rfl) rfl rfl hg8 (by rw [e];exact hg10)
   have hne910:g9≠g10:=fun e=>hR.ne 9 10 _ _ _ _ g9 (by decide) (by rfl) (by rfl) rfl rfl hg9 (by rw [e];exact hg10)
   have X:=Lib.hid (X.out.add3 hR.bel lg8 kg8 lg9 kg9 lg10 kg10 hne89 hne810 hne910)
   have ha:=hR.act
   simp only [List.foldl_cons,List.foldl_nil,seti,set0,setS,vv0,vv1,vv2,vv3,vv4,vv5,vv6,vv7,hg8,hg9,hg10] at ha
   subst ha
   clear hR vv0 vv1 vv2 vv3 vv4 vv5 vv6 vv7 hg8 lg8 kg8 hg9 lg9 kg9 hg10 lg10 kg10
   refine wpAny_of_late (S:=fun _=>True) (L:=[]) _ _ _ _ ?_
   refine wpLate_one (i:=11) (o:=⟨none,_,_,_,_,_⟩) (by kernel_rfl) rfl (fun K hK=>?_)
   obtain ⟨x0,x1,x2,x3,x4,x5,x6,x7,x8⟩:=X.out.c9 (i:=2) rfl
   obtain ⟨y0,y1,y2,y3,y4,y5,y6,y7,y8⟩:=X.out.f9 (i:=2) rfl
   have X:=Lib.hid (X.out.set9 (i:=2) rfl (.bool b2) (.string m2) (.bool false) (.string k2) (.bool c2) (.string n2) (.bool false) (.string l2) (.bool s2))
   go_simp
   refine hK.out _ _ (Or.inr fun _=>trivial) ?_
   clear hK K x0 x1 x2 x3 x4 x5 x6 x7 x8 y0 y1 y2 y3 y4 y5 y6 y7 y8
   obtain ⟨W11,hV⟩:=wexi X.out
   rw [←hV] at X ⊢
   clear hV
   try simp only [Act.put]
   refine wpLate_one (i:=12) (o:=⟨none,_,_,_,_,_⟩) (by kernel_rfl) rfl (fun K hK=>?_)
   obtain ⟨x0,x1,x2,x3,x4,x5,x6,x7,x8⟩:=X.out.c9 (i:=3) rfl
   obtain ⟨y0,y1,y2,y3,y4,y5,y6,y7,y8⟩:=X.out.f9 (i:=3) rfl
   have X:=Lib.hid (X.out.set9 (i:=3) rfl (.bool b3) (.string m3) (.bool false) (.string k3) (.bool c3) (.string n3) (.bool false) (.string l3) (.bool s3))
   go_simp
   refine hK.out _ _ (Or.inr fun _=>trivial) ?_
   clear hK K x0 x1 x2 x3 x4 x5 x6 x7 x8 y0 y1 y2 y3 y4 y5 y6 y7 y8
   obtain ⟨W12,hV⟩:=wexi X.out
   rw [←hV] at X ⊢
   clear hV
   try simp only [Act.put]
   refine wpLate_one (i:=13) (o:=⟨none,_,_,_,_,_⟩) (by kernel_rfl) rfl (fun K hK=>?_)
   obtain ⟨x0,x1,x2,x3,x4,x5,x6,x7,x8⟩:=X.out.c9 (i:=4) rfl
   obtain ⟨y0,y1,y2,y3,y4,y5,y6,y7,y8⟩:=X.out.f9 (i:=4) rfl
   have X:=Lib.hid (X.out.set9 (i:=4) rfl (.bool b4) (.string m4) (.bool false) (.string k4) (.bool c4) (.string n4) (.bool false) (.string l4) (.bool s4))
   go_simp
   refine hK.out _ _ (Or.inr fun _=>trivial) ?_
   clear hK K x0 x1 x2 x3 x4 x5 x6 x7 x8 y0 y1 y2 y3 y4 y5 y6 y7 y8
   obtain ⟨W13,hV⟩:=wexi X.out
   rw [←hV] at X ⊢
   clear hV
   try simp only [Act.put]
   refine wpLate_done (by kernel_rfl) ?_ _
   go_wp2_with fail
   go_meet
   subst hLL
   exact ⟨_,_,_,rfl,rfl,rfl,X.out⟩
  exact wkc),p):=@fun _ h=>h
 clear HK HS HF HN HH HC GN GH GC HNN GR HB HI GI HJ 
 go_enter Tryz.func9,Tryz.ntmps9
 exact wk0

set_option maxHeartbeats 8000000 in
set_option maxRecDepth 100000 in
theorem moves_a (w:World) {c1 s1:Bool} {n1 l1:ByteArray} {b2 c2 s2:Bool} {m2 k2 n2 l2:ByteArray} {b3 c3 s3:Bool} {m3 k3 n3 l3:ByteArray} {b4 c4 s4:Bool} {m4 k4 n4 l4:ByteArray} {b5 c5 s5:Bool} {m5 k5 n5 l5:ByteArray} {b7 b8:Bool} {m7 k7 m8 k8:ByteArray} (hn:n1≠⟨#[]⟩) (HK:∀ V,Below w.heap.size w V→Calls Tryz.prog 15 #[] V (RetB V (.bool true))) (HS:∀ V,Below w.heap.size w V→Calls Tryz.prog 22 #[.agg #[.bool false,.string ⟨#[]⟩,.bool false,.string ⟨#[]⟩,.bool c1,.string n1,.bool false,.string l1,.bool s1]] V (RetB V (.bool true))) (HF:∀ V,Below w.heap.size w V→Calls Tryz.prog 26 #[.agg #[.bool b7,.string m7,.bool false,.string k7]] V (RetB V (.bool true))) (HN:∀ V,Below w.heap.size w V→Calls Tryz.prog 43 #[.agg #[.bool false,.string ⟨#[]⟩,.bool false,.string ⟨#[]⟩,.bool c1,.string n1,.bool false,.string l1,.bool s1]] V (RetB V (.agg #[.bool b2,.string m2,.bool false,.string k2,.bool c2,.string n2,.bool false,.string l2,.bool s2]))) (HH:∀ V,Below w.heap.size w V→Calls Tryz.prog 44 #[.agg #[.bool false,.string ⟨#[]⟩,.bool false,.string ⟨#[]⟩,.bool c1,.string n1,.bool false,.string l1,.bool s1],.agg #[.bool b7,.string m7,.bool false,.string k7]] V (RetB V (.agg #[.bool b3,.string m3,.bool false,.string k3,.bool c3,.string n3,.bool false,.string l3,.bool s3]))) (HC:∀ V,Below w.heap.size w V→Calls Tryz.prog 45 #[.agg #[.bool false,.string ⟨#[]⟩,.bool false,.string ⟨#[]⟩,.bool c1,.string n1,.bool false,.string l1,.bool s1],.agg #[.bool b7,.string m7,.bool false,.string k7]] V (RetB V (.agg #[.bool b4,.string m4,.bool false,.string k4,.bool c4,.string n4,.bool false,.string l4,.bool s4]))) (GN:∀ V,Below w.heap.size w V→Calls Tryz.prog 46 #[.agg #[.bool false,.string ⟨#[]⟩,.bool false,.string ⟨#[]⟩,.bool c1,.string n1,.bool false,.string l1,.bool s1]] V (RetB V (.agg #[.bool b2,.string m2,.bool false,.string k2,.bool c2,.string n2,.bool false,.string l2,.bool s2]))) (GH:∀ V,Below w.heap.size w V→Calls Tryz.prog 47 #[.agg #[.bool false,.string ⟨#[]⟩,.bool false,.string ⟨#[]⟩,.bool c1,.string n1,.bool false,.string l1,.bool s1],.agg #[.bool b7,.string m7,.bool false,.string k7]] V (RetB V (.agg #[.bool b3,.string m3,.bool false,.string k3,.bool c3,.string n3,.bool false,.string l3,.bool s3]))) (GC:∀ V,Below w.heap.size w V→Calls Tryz.prog 48 #[.agg #[.bool false,.string ⟨#[]⟩,.bool false,.string ⟨#[]⟩,.bool c1,.string n1,.bool false,.string l1,.bool s1],.agg #[.bool b7,.string m7,.bool false,.string k7]] V (RetB V (.agg #[.bool b4,.string m4,.bool false,.string k4,.bool c4,.string n4,.bool false,.string l4,.bool s4]))) (HNN:∀ V,Below w.heap.size w V→Calls Tryz.prog 43 #[.agg #[.bool b2,.string m2,.bool false,.string k2,.bool c2,.string n2,.bool false,.string l2,.bool s2]] V (RetB V (.agg #[.bool false,.string ⟨#[]⟩,.bool false,.string ⟨#[]⟩,.bool c1,.string n1,.bool false,.string l1,.bool s1]))) (GR:∀ V,Below w.heap.size w V→Calls Tryz.prog 49 #[.agg #[.bool b7,.string m7,.bool false,.string k7]] V (RetB V (.agg #[.bool b8,.string m8,.bool false,.string k8]))) (HB:∀ V,Below w.heap.size w V→Calls Tryz.prog 44 #[.agg #[.bool b3,.string m3,.bool false,.string k3,.bool c3,.string n3,.bool false,.string l3,.bool s3],.agg #[.bool b8,.string m8,.bool false,.string k8]] V (RetB V (.agg #[.bool false,.string ⟨#[]⟩,.bool false,.string ⟨#[]⟩,.bool c1,.string n1,.bool false,.string l1,.bool s1]))) (HI:∀ V,Below w.heap.size w V→Calls Tryz.prog 50 #[.agg #[.bool false,.string ⟨#[]⟩,.bool false,.string ⟨#[]⟩,.bool c1,.string n1,.bool false,.string l1,.bool s1]] V (RetB V (.tuple #[.agg #[.bool b5,.string m5,.bool false,.string k5,.bool c5,.string n5,.bool false,.string l5,.bool s5],.int .i64 0]))) (GI:∀ V,Below w.heap.size w V→Calls Tryz.prog 51 #[.agg #[.bool false,.string ⟨#[]⟩,.bool false,.string ⟨#[]⟩,.bool c1,.string n1,.bool false,.string l1,.bool s1]] V (RetB V (.agg #[.bool b5,.string m5,.bool false,.string k5,.bool c5,.string n5,.bool false,.string l5,.bool s5]))) (HJ:∀ V,Below w.heap.size w V→Calls Tryz.prog 50 #[.agg #[.bool b5,.string m5,.bool false,.string k5,.bool c5,.string n5,.bool false,.string l5,.bool s5]] V (RetB V (.tuple #[.agg #[.bool false,.string ⟨#[]⟩,.bool false,.string ⟨#[]⟩,.bool c1,.string n1,.bool false,.string l1,.bool s1],.int .i64 0]))) :
  Calls Tryz.prog 9 #[.agg #[.bool false,.string ⟨#[]⟩,.bool false,.string ⟨#[]⟩,.bool c1,.string n1,.bool false,.string l1,.bool s1],.agg #[.bool b7,.string m7,.bool false,.string k7]] w (RetB w (.bool true)):=by
 obtain ⟨e1,e2⟩:=str_ne hn
 have e3:=empty_no (size_pos hn)
 clear hn
 have C1:=Lib.hid HK
 have C2:=Lib.hid HS
 have C3:=Lib.hid HF
 have C4:=Lib.hid HN
 have C5:=Lib.hid HH
 have C6:=Lib.hid HC
 have C7:=Lib.hid GN
 have C8:=Lib.hid GH
 have C9:=Lib.hid GC
 have C10:=Lib.hid HNN
 have C11:=Lib.hid GR
 have C12:=Lib.hid HB
 have C13:=Lib.hid HI
 have C14:=Lib.hid GI
 have C15:=Lib.hid HJ
 have U1:Hid (∀ {p:Prop} (h:p:=by
  (fail_if_success (go_not_at_region 3))
  (fail_if_success (have:=hLL))
  obtain ⟨LL,hLL⟩:=lexi X.out
  go_cut [5,6,7] (fun slot0 slot1 slot2 wx=>∃ g0 g1 g2,slot0=.pointer (some ⟨g0,0,none⟩)∧slot1=.pointer (some ⟨g1,0,none⟩)∧slot2=.pointer (some ⟨g2,0,none⟩)∧Sb w (LL++[(g0,#[.bool b2,.string m2,.bool false,.string k2,.bool c2,.string n2,.bool false,.string l2,.bool s2],27),(g1,#[.bool b3,.string m3,.bool false,.string k3,.bool c3,.string n3,.bool false,.string l3,.bool s3],27),(g2,#[.bool b4,.string m4,.bool false,.string k4,.bool c4,.string n4,.bool false,.string l4,.bool s4],27)]) [] wx)
  focus
   refine wp_region_any (by kernel_rfl) ?_
   have X:=Lib.hid X.out.drew
   obtain ⟨W0,hV⟩:=wexi X.out
   rw [show ∀ v:World,{ v with drawn:=v.drawn+1 }=v.drew from fun _=>rfl,←hV]
   rw [←hV] at X
   clear hV
   refine rg_run (ef:=[.val (.agg #[.bool false,.string ⟨#[]⟩,.bool false,.string ⟨#[]⟩,.bool c1,.string n1,.bool false,.string l1,.bool s1]),.val (.agg #[.bool b2,.string m2,.bool false,.string k2,.bool c2,.string n2,.bool false,.string l2,.bool s2]),.val (.agg #[.bool false,.string ⟨#[]⟩,.bool false,.string ⟨#[]⟩,.bool c1,.string n1,.bool false,.string l1,.bool s1]),.val (.agg #[.bool b7,.string m7,.bool false,.string k7]),.val (.agg #[.bool b3,.string m3,.bool false,.string k3,.bool c3,.string n3,.bool false,.string l3,.bool s3]),.val (.agg #[.bool false,.string ⟨#[]⟩,.bool false,.string ⟨#[]⟩,.bool c1,.string n1,.bool false,.string l1,.bool s1]),.val (.agg #[.bool b7,.string m7,.bool false,.string k7]),.val (.agg #[.bool b4,.string m4,.bool false,.string k4,.bool c4,.string n4,.bool false,.string l4,.bool s4]),.new #[.bool false,.string ⟨#[]⟩,.bool false,.string ⟨#[]⟩,.bool false,.string ⟨#[]⟩,.bool false,.string ⟨#[]⟩,.bool false] 27,.new #[.bool false,.string ⟨#[]⟩,.bool false,.string ⟨#[]⟩,.bool false,.string ⟨#[]⟩,.bool false,.string ⟨#[]⟩,.bool false] 27,.new #[.bool false,.string ⟨#[]⟩,.bool false,.string ⟨#[]⟩,.bool false,.string ⟨#[]⟩,.bool false,.string ⟨#[]⟩,.bool false] 27]) (ds:=[25,26,27,28,29,30,31,32,5,6,7]) (by kernel_rfl) (stays_none (by simp)) (by decide) rfl (by intro d hd;simp at hd ⊢;omega) (fun i d o hd ho listed a w1 hR hdep K hK=>?_) 3 (fun a w1 hR=>?_)
   · have X:=Lib.hid (X.out.next hR.bel)
     have HKt:=Lib.hid hK
     have HDp:=Lib.hid hdep
     have sl2:a.tmps.getD 2 undef=.pointer (some ⟨w.heap.size,0,none⟩):=hR.keep 2 (by decide)
     have sl3:a.tmps.getD 3 undef=.pointer (some ⟨w.heap.size+1,0,none⟩):=hR.keep 3 (by decide)
     have HRg:=Lib.hid hR
     clear hK hdep hR
     rcases i with _ | _ | _ | _ | _ | _ | _ | _ | _ | _ | _ | i
     · cases hd
       cases ho
       obtain ⟨x00,x01,x02,x03,x04,x05,x06,x07,x08⟩:=X.out.c9 (i:=0) rfl
       obtain ⟨x10,x11,x12,x13⟩:=X.out.c4 (i:=1) rfl
       go_simp
       exact HKt.out _ _ (Or.inl ⟨rfl,Below.refl _ _⟩)
     · cases hd
       cases ho
       have dd0:a.tmps.getD 25 undef=.agg #[.bool false,.string ⟨#[]⟩,.bool false,.string ⟨#[]⟩,.bool c1,.string n1,.bool false,.string l1,.bool s1]:=HRg.out.val 0 _ (HDp.out 0 (by decide)) rfl
       go_simp
       (go_at_call 43;refine (C4.out _ X.out.bel).mono ?_;rintro e u ⟨rfl,hb9⟩)
       try go_wp2_with fail
       exact HKt.out _ _ (Or.inl ⟨rfl,hb9⟩)
     · cases hd
       cases ho
       obtain ⟨x00,x01,x02,x03,x04,x05,x06,x07,x08⟩:=X.out.c9 (i:=0) rfl
       obtain ⟨x10,x11,x12,x13⟩:=X.out.c4 (i:=1) rfl
       go_simp
       exact HKt.out _ _ (Or.inl ⟨rfl,Below.refl _ _⟩)
     · cases hd
       cases ho
       obtain ⟨x00,x01,x02,x03,x04,x05,x06,x07,x08⟩:=X.out.c9 (i:=0) rfl
       obtain ⟨x10,x11,x12,x13⟩:=X.out.c4 (i:=1) rfl
       go_simp
       exact HKt.out _ _ (Or.inl ⟨rfl,Below.refl _ _⟩)
     · cases hd
       cases ho
       have dd1:a.tmps.getD 26 undef=.agg #[.bool b2,.string m2,.bool false,.string k2,.bool c2,.string n2,.bool false,.string l2,.bool s2]:=HRg.out.val 1 _ (HDp.out 1 (by decide)) rfl
       have dd2:a.tmps.getD 27 undef=.agg #[.bool false,.string ⟨#[]⟩,.bool false,.string ⟨#[]⟩,.bool c1,.string n1,.bool false,.string l1,.bool s1]:=HRg.out.val 2 _ (HDp.out 2 (by decide)) rfl
       have dd3:a.tmps.getD 28 undef=.agg #[.bool b7,.string m7,.bool false,.string k7]:=HRg.out.val 3 _ (HDp.out 3 (by decide)) rfl
       go_simp
       (go_at_call 44;refine (C5.out _ X.out.bel).mono ?_;rintro e u ⟨rfl,hb9⟩)
       try go_wp2_with fail
       exact HKt.out _ _ (Or.inl ⟨rfl,hb9⟩)
     · cases hd
       cases ho
       obtain ⟨x00,x01,x02,x03,x04,x05,x06,x07,x08⟩:=X.out.c9 (i:=0) rfl
       obtain ⟨x10,x11,x12,x13⟩:=X.out.c4 (i:=1) rfl
       go_simp
       exact HKt.out _ _ (Or.inl ⟨rfl,Below.refl _ _⟩)
     · cases hd
       cases ho
       obtain ⟨x00,x01,x02,x03,x04,x05,x06,x07,x08⟩:=X.out.c9 (i:=0) rfl
       obtain ⟨x10,x11,x12,x13⟩:=X.out.c4 (i:=1) rfl
       go_simp
       exact HKt.out _ _ (Or.inl ⟨rfl,Below.refl _ _⟩)
     · cases hd
       cases ho
       have dd4:a.tmps.getD 29 undef=.agg #[.bool b3,.string m3,.bool false,.string k3,.bool c3,.string n3,.bool false,.string l3,.bool s3]:=HRg.out.val 4 _ (HDp.out 4 (by decide)) rfl
       have dd5:a.tmps.getD 30 undef=.agg #[.bool false,.string ⟨#[]⟩,.bool false,.string ⟨#[]⟩,.bool c1,.string n1,.bool false,.string l1,.bool s1]:=HRg.out.val 5 _ (HDp.out 5 (by decide)) rfl
       have dd6:a.tmps.getD 31 undef=.agg #[.bool b7,.string m7,.bool false,.string k7]:=HRg.out.val 6 _ (HDp.out 6 (by decide)) rfl
       go_simp
       (go_at_call 45;refine (C6.out _ X.out.bel).mono ?_;rintro e u ⟨rfl,hb9⟩)
       try go_wp2_with fail
       exact HKt.out _ _ (Or.inl ⟨rfl,hb9⟩)
     · cases hd
       cases ho
       go_simp
       exact HKt.out _ _ (Or.inr (Or.inl ⟨_,_,rfl,rfl,rfl⟩))
     · cases hd
       cases ho
       go_simp
       exact HKt.out _ _ (Or.inr (Or.inl ⟨_,_,rfl,rfl,rfl⟩))
     · cases hd
       cases ho
       go_simp
       exact HKt.out _ _ (Or.inr (Or.inl ⟨_,_,rfl,rfl,rfl⟩))
     · cases hd
   obtain ⟨g8,hg8,lg8,kg8⟩:=hR.new 8 _ _ (by rfl) rfl
   obtain ⟨g9,hg9,lg9,kg9⟩:=hR.new 9 _ _ (by rfl) rfl
   obtain ⟨g10,hg10,lg10,kg10⟩:=hR.new 10 _ _ (by rfl) rfl
   have vv0:a.tmps.getD 25 undef=.agg #[.bool false,.string ⟨#[]⟩,.bool false,.string ⟨#[]⟩,.bool c1,.string n1,.bool false,.string l1,.bool s1]:=hR.val 0 _ (by rfl) rfl
   have vv1:a.tmps.getD 26 undef=.agg #[.bool b2,.string m2,.bool false,.string k2,.bool c2,.string n2,.bool false,.string l2,.bool s2]:=hR.val 1 _ (by rfl) rfl
   have vv2:a.tmps.getD 27 undef=.agg #[.bool false,.string ⟨#[]⟩,.bool false,.string ⟨#[]⟩,.bool c1,.string n1,.bool false,.string l1,.bool s1]:=hR.val 2 _ (by rfl) rfl
   have vv3:a.tmps.getD 28 undef=.agg #[.bool b7,.string m7,.bool false,.string k7]:=hR.val 3 _ (by rfl) rfl
   have vv4:a.tmps.getD 29 undef=.agg #[.bool b3,.string m3,.bool false,.string k3,.bool c3,.string n3,.bool false,.string l3,.bool s3]:=hR.val 4 _ (by rfl) rfl
   have vv5:a.tmps.getD 30 undef=.agg #[.bool false,.string ⟨#[]⟩,.bool false,.string ⟨#[]⟩,.bool c1,.string n1,.bool false,.string l1,.bool s1]:=hR.val 5 _ (by rfl) rfl
   have vv6:a.tmps.getD 31 undef=.agg #[.bool b7,.string m7,.bool false,.string k7]:=hR.val 6 _ (by rfl) rfl
   have vv7:a.tmps.getD 32 undef=.agg #[.bool b4,.string m4,.bool false,.string k4,.bool c4,.string n4,.bool false,.string l4,.bool s4]:=hR.val 7 _ (by rfl) rfl
   replace hg8:a.tmps.getD 5 undef=.pointer (some ⟨g8,0,none⟩):=hg8
   replace hg9:a.tmps.getD 6 undef=.pointer (some ⟨g9,0,none⟩):=hg9
   replace hg10:a.tmps.getD 7 undef=.pointer (some ⟨g10,0,none⟩):=hg10
   have hne89:g8≠g9:=fun e=>hR.ne 8 9 _ _ _ _ g8 (by decide) (by rfl) (by rfl) rfl rfl hg8 (by rw [e];exact hg9)
   have hne810:g8≠g10:=fun e=>hR.ne 8 10 _ _ _ _ g8 (by decide) (by rfl) (by rfl) rfl rfl hg8 (by rw [e];exact hg10)
   have hne910:g9≠g10:=fun e=>hR.ne 9 10 _ _ _ _ g9 (by decide) (by rfl) (by rfl) rfl rfl hg9 (by rw [e];exact hg10)
   have X:=Lib.hid (X.out.add3 hR.bel lg8 kg8 lg9 kg9 lg10 kg10 hne89 hne810 hne910)
   have ha:=hR.act
   simp only [List.foldl_cons,List.foldl_nil,seti,set0,setS,vv0,vv1,vv2,vv3,vv4,vv5,vv6,vv7,hg8,hg9,hg10] at ha
   subst ha
   clear hR vv0 vv1 vv2 vv3 vv4 vv5 vv6 vv7 hg8 lg8 kg8 hg9 lg9 kg9 hg10 lg10 kg10
   refine wpAny_of_late (S:=fun _=>True) (L:=[]) _ _ _ _ ?_
   refine wpLate_one (i:=11) (o:=⟨none,_,_,_,_,_⟩) (by kernel_rfl) rfl (fun K hK=>?_)
   obtain ⟨x0,x1,x2,x3,x4,x5,x6,x7,x8⟩:=X.out.c9 (i:=2) rfl
   obtain ⟨y0,y1,y2,y3,y4,y5,y6,y7,y8⟩:=X.out.f9 (i:=2) rfl
   have X:=Lib.hid (X.out.set9 (i:=2) rfl (.bool b2) (.string m2) (.bool false) (.string k2) (.bool c2) (.string n2) (.bool false) (.string l2) (.bool s2))
   go_simp
   refine hK.out _ _ (Or.inr fun _=>trivial) ?_
   clear hK K x0 x1 x2 x3 x4 x5 x6 x7 x8 y0 y1 y2 y3 y4 y5 y6 y7 y8
   obtain ⟨W11,hV⟩:=wexi X.out
   rw [←hV] at X ⊢
   clear hV
   try simp only [Act.put]
   refine wpLate_one (i:=12) (o:=⟨none,_,_,_,_,_⟩) (by kernel_rfl) rfl (fun K hK=>?_)
   obtain ⟨x0,x1,x2,x3,x4,x5,x6,x7,x8⟩:=X.out.c9 (i:=3) rfl
   obtain ⟨y0,y1,y2,y3,y4,y5,y6,y7,y8⟩:=X.out.f9 (i:=3) rfl
   have X:=Lib.hid (X.out.set9 (i:=3) rfl (.bool b3) (.string m3) (.bool false) (.string k3) (.bool c3) (.string n3) (.bool false) (.string l3) (.bool s3))
   go_simp
   refine hK.out _ _ (Or.inr fun _=>trivial) ?_
   clear hK K x0 x1 x2 x3 x4 x5 x6 x7 x8 y0 y1 y2 y3 y4 y5 y6 y7 y8
   obtain ⟨W12,hV⟩:=wexi X.out
   rw [←hV] at X ⊢
   clear hV
   try simp only [Act.put]
   refine wpLate_one (i:=13) (o:=⟨none,_,_,_,_,_⟩) (by kernel_rfl) rfl (fun K hK=>?_)
   obtain ⟨x0,x1,x2,x3,x4,x5,x6,x7,x8⟩:=X.out.c9 (i:=4) rfl
   obtain ⟨y0,y1,y2,y3,y4,y5,y6,y7,y8⟩:=X.out.f9 (i:=4) rfl
   have X:=Lib.hid (X.out.set9 (i:=4) rfl (.bool b4) (.string m4) (.bool false) (.string k4) (.bool c4) (.string n4) (.bool false) (.string l4) (.bool s4))
   go_simp
   refine hK.out _ _ (Or.inr fun _=>trivial) ?_
   clear hK K x0 x1 x2 x3 x4 x5 x6 x7 x8 y0 y1 y2 y3 y4 y5 y6 y7 y8
   obtain ⟨W13,hV⟩:=wexi X.out
   rw [←hV] at X ⊢
   clear hV
   try simp only [Act.put]
   refine wpLate_done (by kernel_rfl) ?_ _
   go_wp2_with fail
   go_meet
   subst hLL
   exact ⟨_,_,_,rfl,rfl,rfl,X.out⟩
  exact wkc),p):=@fun _ h=>h
 clear HK HS HF HN HH HC GN GH GC HNN GR HB HI GI HJ 
 go_enter Tryz.func9,Tryz.ntmps9
 exact wk0

theorem moves_all (b1:Bool) (m1:ByteArray) (d1:Bool) (k1:ByteArray) (c1:Bool) (n1:ByteArray) (e1:Bool) (l1:ByteArray) (s1:Bool) (tm1:m1.size≤140737488351232) (tk1:k1.size≤140737488351232) (tn1:n1.size≤140737488351232) (tl1:l1.size≤140737488351232) (b7:Bool) (m7:ByteArray) (d7:Bool) (k7:ByteArray) (tm7:m7.size≤140737488351232) (tk7:k7.size≤140737488351232) (w:World) (hE:Env w):Calls Tryz.prog 9 #[.agg #[.bool b1,.string m1,.bool d1,.string k1,.bool c1,.string n1,.bool e1,.string l1,.bool s1],.agg #[.bool b7,.string m7,.bool d7,.string k7]] w (RetB w (.bool true)):=by
 obtain ⟨o1,H1,P1⟩:=small_or b1 d1 c1 e1 s1 m1 k1 n1 l1 tm1 tk1 tn1 tl1
 obtain ⟨o2,H2,P2⟩:=frac_any b7 m7 d7 k7 tm7 tk7
 have HK:=fun V (hb:Below w.heap.size w V)=>rknown3 V (hE.next hb)
 cases o1
 · exact moves_no1 w HK (fun V _=>H1 V)
 cases o2
 · exact moves_no2 w HK (fun V _=>H1 V) (fun V _=>H2 V)
 obtain ⟨rfl,rfl,x,ok,hx,zx⟩:=P1 rfl
 obtain ⟨rfl,r,hr,zr⟩:=P2 rfl
 have up:∀ {x:Sg.Rl} {n:Nat},8≤n→Rz 8 x→Rz n x:=fun hn h=>⟨h.p.up hn,h.r.up hn⟩
 obtain ⟨b2,m2,k2,c2,n2,l2,s2,h2⟩:=Rv.some_ x.neg
 obtain ⟨b3,m3,k3,c3,n3,l3,s3,h3⟩:=Rv.some_ (x.add r)
 obtain ⟨b4,m4,k4,c4,n4,l4,s4,h4⟩:=Rv.some_ (x.scl r)
 obtain ⟨b8,m8,k8,h8⟩:=Rq.some_ (-r)
 have ok2:=Sg.neg_ok ok
 have ok3:=Sg.add_ok ok r
 have HN:=fun V (_:Below w.heap.size w V)=>rneg_f hx ok h2 V
 have z3:Rz 100 (x.add r):=⟨(zx.p.add zr).up (by omega),zx.r.up (by omega)⟩
 obtain ⟨b9,m9,k9,h9⟩:=Rq.some_ (x.p+r)
 obtain ⟨rfl,rfl,rfl⟩:=h3.p.inj h9
 obtain ⟨rfl,rfl,rfl⟩:=h3.r.inj hx.r
 obtain rfl:s3=s1:=by rw [h3.neg,hx.neg];rfl
 have HH:=fun V (hb:Below w.heap.size w V)=>rshift_f hx hr h9 (up (by omega) zx) (zr.up (by omega)) V (hE.next hb)
 have HC:=fun V (hb:Below w.heap.size w V)=>rscl_f hx ok hr h4 (up (by omega) zx) (zr.up (by omega)) V (hE.next hb)
 have GN:=fun V (_:Below w.heap.size w V)=>fneg_f hx ok h2 (up (by omega) zx) V
 have GH:=fun V (_:Below w.heap.size w V)=>fshift_f hx ok hr h3 (up (by omega) zx) (zr.up (by omega)) V
 have GC:=fun V (_:Below w.heap.size w V)=>fscale_f hx ok hr h4 (up (by omega) zx) (zr.up (by omega)) V
 have HNN:=fun V (_:Below w.heap.size w V)=>rneg_f h2 ok2 (by rw [Sg.neg_neg' ok];exact hx) V
 have GR:=fun V (_:Below w.heap.size w V)=>rNeg_f hr h8 V
 have HB:=fun V (hb:Below w.heap.size w V)=>rshift_f h3 h8 (by show Rq (x.p+r+-r) b1 m1 k1;rw [show x.p+r+-r=x.p by grind];exact hx.p) ⟨z3.p.up (by omega),z3.r.up (by omega)⟩ (zr.minus.up (by omega)) V (hE.next hb)
 by_cases h0:x=Sg.Rl.of 0
 · subst h0
   obtain ⟨rfl,rfl,rfl⟩:=hx.p.nought.1 rfl
   obtain ⟨rfl,rfl,rfl⟩:=hx.r.nought.1 rfl
   obtain rfl:s3=false:=hx.neg
   exact moves_zero w HK (fun V _=>H1 V) (fun V _=>H2 V) HN HH HC GN GH GC HNN GR HB (fun V _=>rinv_0 V)
 · obtain ⟨b5,m5,k5,c5,n5,l5,s5,h5⟩:=Rv.some_ x.iv
   obtain ⟨ok5,h50,hback⟩:=iv_ok ok h0
   have z5:=iv_size ok h0 zx
   have HI:=fun V (hb:Below w.heap.size w V)=>rinv_f hx ok h0 h5 (up (by omega) zx) V (hE.next hb)
   have GI:=fun V (_:Below w.heap.size w V)=>finv_f hx ok h0 h5 (up (by omega) zx) V
   have HJ:=fun V (hb:Below w.heap.size w V)=>rinv_f h5 ok5 h50 (by rw [hback];exact hx) z5 V (hE.next hb)
   by_cases hp:x.p=0
   · obtain ⟨rfl,rfl,rfl⟩:=hx.p.nought.1 hp
     have ha:x.a≠0:=fun ha=>by
      rcases Sg.ok_cases ok with ⟨_,e⟩ | ⟨e,_⟩
      · exact h0 (Sg.Rl.ext' hp ha e)
      · grind
     exact moves_a w (hx.r.ne ha) HK (fun V _=>H1 V) (fun V _=>H2 V) HN HH HC GN GH GC HNN GR HB HI GI HJ
   · exact moves_p w (hx.p.ne hp) HK (fun V _=>H1 V) (fun V _=>H2 V) HN HH HC GN GH GC HNN GR HB HI GI HJ
end Go.Proofs.YtpnokfgplnmjpaaGreatDoor
