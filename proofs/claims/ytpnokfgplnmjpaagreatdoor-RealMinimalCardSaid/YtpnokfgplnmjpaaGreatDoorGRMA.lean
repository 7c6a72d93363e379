import Derived.Test.YtpnokfgplnmjpaaGreatDoorGRLG
import Derived.Test.YtpnokfgplnmjpaaGreatDoorGRCB
import Derived.Test.YtpnokfgplnmjpaaGreatDoorGRCA
import Derived.Test.YtpnokfgplnmjpaaGreatDoorGRLN
import Derived.Test.YtpnokfgplnmjpaaGreatDoorGRLL
set_option linter.unusedSimpArgs false
set_option linter.unusedVariables false

namespace Go.Proofs.YtpnokfgplnmjpaaGreatDoor
open Go.RowKit
attribute [local go_sem ↓] Go.wp_at_zero Go.wp_at_succ

theorem wrap_small {x:Int} (h1:-9223372036854775808≤x) (h2:x≤9223372036854775807):IntKind.i64.wrap x=x:=by
 rw [IntKind.wrap_i64]
 omega

set_option maxHeartbeats 8000000 in
set_option maxRecDepth 100000 in
theorem bytes_w (b1 d1:Bool) (m1 k1:ByteArray) (hm:m1.size≤140737488351232) (hk:k1.size≤140737488351232) (w:World) :
  Calls Tryz.prog 16 #[.agg #[.bool b1,.string m1,.bool d1,.string k1]] w (RetB w (.int .i64 ((m1.size:Int)+(k1.size:Int)))):=by
 have hw:IntKind.i64.wrap ((m1.size:Int)+(k1.size:Int))=(m1.size:Int)+(k1.size:Int):=wrap_small (by omega) (by omega)
 go_enter Tryz.func16,Tryz.ntmps16
 exact wk0

set_option maxHeartbeats 8000000 in
set_option maxRecDepth 100000 in
theorem fchk_bad1 (w:World) {b1 d1 c1 e1 s1:Bool} {m1 k1 n1 l1:ByteArray} (HC1:∀ V,Below w.heap.size w V→Calls Tryz.prog 57 #[.agg #[.bool b1,.string m1,.bool d1,.string k1]] V (RetB V (.bool false))) :
  Calls Tryz.prog 17 #[.agg #[.bool b1,.string m1,.bool d1,.string k1,.bool c1,.string n1,.bool e1,.string l1,.bool s1]] w (RetB w (.bool false)):=by
 have C1:=Lib.hid HC1
 clear HC1 
 go_enter Tryz.func17,Tryz.ntmps17
 exact wk0

set_option maxHeartbeats 8000000 in
set_option maxRecDepth 100000 in
theorem fchk_bad2 (w:World) {b1 d1 c1 e1 s1:Bool} {m1 k1 n1 l1:ByteArray} (HC1:∀ V,Below w.heap.size w V→Calls Tryz.prog 57 #[.agg #[.bool b1,.string m1,.bool d1,.string k1]] V (RetB V (.bool true))) (HC2:∀ V,Below w.heap.size w V→Calls Tryz.prog 57 #[.agg #[.bool c1,.string n1,.bool e1,.string l1]] V (RetB V (.bool false))) :
  Calls Tryz.prog 17 #[.agg #[.bool b1,.string m1,.bool d1,.string k1,.bool c1,.string n1,.bool e1,.string l1,.bool s1]] w (RetB w (.bool false)):=by
 have C1:=Lib.hid HC1
 have C2:=Lib.hid HC2
 clear HC1 HC2 
 go_enter Tryz.func17,Tryz.ntmps17
 exact wk0

set_option maxHeartbeats 8000000 in
set_option maxRecDepth 100000 in
theorem fchk_zero (w:World) {b1 d1 s1:Bool} {m1 k1:ByteArray} (HC1:∀ V,Below w.heap.size w V→Calls Tryz.prog 57 #[.agg #[.bool b1,.string m1,.bool d1,.string k1]] V (RetB V (.bool true))) (HC2:∀ V,Below w.heap.size w V→Calls Tryz.prog 57 #[.agg #[.bool false,.string ⟨#[]⟩,.bool false,.string ⟨#[]⟩]] V (RetB V (.bool true))) (HS:∀ V,Below w.heap.size w V→Calls Tryz.prog 28 #[.agg #[.bool false,.string ⟨#[]⟩,.bool false,.string ⟨#[]⟩]] V (RetB V (.int .i64 (0)))) (HZ:∀ V,Below w.heap.size w V→Calls Tryz.prog 24 #[] V (RetB V (.agg #[.bool false,.string ⟨#[]⟩,.bool false,.string ⟨#[]⟩]))) :
  Calls Tryz.prog 17 #[.agg #[.bool b1,.string m1,.bool d1,.string k1,.bool false,.string ⟨#[]⟩,.bool false,.string ⟨#[]⟩,.bool s1]] w (RetB w (.bool (!s1))):=by
 have C1:=Lib.hid HC1
 have C2:=Lib.hid HC2
 have C3:=Lib.hid HS
 have C4:=Lib.hid HZ
 clear HC1 HC2 HS HZ 
 go_enter Tryz.func17,Tryz.ntmps17
 exact wk0

set_option maxHeartbeats 8000000 in
set_option maxRecDepth 100000 in
theorem fchk_neg (w:World) {b1 d1 s1:Bool} {m1 k1 n1 l1:ByteArray} (HC1:∀ V,Below w.heap.size w V→Calls Tryz.prog 57 #[.agg #[.bool b1,.string m1,.bool d1,.string k1]] V (RetB V (.bool true))) (HC2:∀ V,Below w.heap.size w V→Calls Tryz.prog 57 #[.agg #[.bool true,.string n1,.bool false,.string l1]] V (RetB V (.bool true))) (HS:∀ V,Below w.heap.size w V→Calls Tryz.prog 28 #[.agg #[.bool true,.string n1,.bool false,.string l1]] V (RetB V (.int .i64 (-1)))) (HZ:∀ V,Below w.heap.size w V→Calls Tryz.prog 24 #[] V (RetB V (.agg #[.bool false,.string ⟨#[]⟩,.bool false,.string ⟨#[]⟩]))) :
  Calls Tryz.prog 17 #[.agg #[.bool b1,.string m1,.bool d1,.string k1,.bool true,.string n1,.bool false,.string l1,.bool s1]] w (RetB w (.bool false)):=by
 have C1:=Lib.hid HC1
 have C2:=Lib.hid HC2
 have C3:=Lib.hid HS
 have C4:=Lib.hid HZ
 clear HC1 HC2 HS HZ 
 go_enter Tryz.func17,Tryz.ntmps17
 exact wk0

set_option maxHeartbeats 8000000 in
set_option maxRecDepth 100000 in
theorem fchk_pos (w:World) {b1 d1 c1 e1 s1:Bool} {m1 k1 n1 l1:ByteArray} {o:Bool} {b2 c2:Bool} {m2 k2:ByteArray} (HC1:∀ V,Below w.heap.size w V→Calls Tryz.prog 57 #[.agg #[.bool b1,.string m1,.bool d1,.string k1]] V (RetB V (.bool true))) (HC2:∀ V,Below w.heap.size w V→Calls Tryz.prog 57 #[.agg #[.bool c1,.string n1,.bool e1,.string l1]] V (RetB V (.bool true))) (HS:∀ V,Below w.heap.size w V→Calls Tryz.prog 28 #[.agg #[.bool c1,.string n1,.bool e1,.string l1]] V (RetB V (.int .i64 1))) (HR:∀ V,Below w.heap.size w V→Calls Tryz.prog 68 #[.agg #[.bool c1,.string n1,.bool e1,.string l1]] V (RetB V (.tuple #[.agg #[.bool b2,.string m2,.bool c2,.string k2],.bool o]))) :
  Calls Tryz.prog 17 #[.agg #[.bool b1,.string m1,.bool d1,.string k1,.bool c1,.string n1,.bool e1,.string l1,.bool s1]] w (RetB w (.bool (!o))):=by
 have C1:=Lib.hid HC1
 have C2:=Lib.hid HC2
 have C3:=Lib.hid HS
 have C4:=Lib.hid HR
 clear HC1 HC2 HS HR 
 go_enter Tryz.func17,Tryz.ntmps17
 exact wk0

set_option maxHeartbeats 8000000 in
set_option maxRecDepth 100000 in
theorem small_no1 (w:World) {b1 d1 c1 e1 s1:Bool} {m1 k1 n1 l1:ByteArray} (h:¬(m1.size:Int)+(k1.size:Int)≤8) (HB1:∀ V,Below w.heap.size w V→Calls Tryz.prog 16 #[.agg #[.bool b1,.string m1,.bool d1,.string k1]] V (RetB V (.int .i64 ((m1.size:Int)+(k1.size:Int))))) :
  Calls Tryz.prog 22 #[.agg #[.bool b1,.string m1,.bool d1,.string k1,.bool c1,.string n1,.bool e1,.string l1,.bool s1]] w (RetB w (.bool false)):=by
 have C1:=Lib.hid HB1
 clear HB1 
 go_enter Tryz.func22,Tryz.ntmps22
 exact wk0

set_option maxHeartbeats 8000000 in
set_option maxRecDepth 100000 in
theorem small_no2 (w:World) {b1 d1 c1 e1 s1:Bool} {m1 k1 n1 l1:ByteArray} (h:(m1.size:Int)+(k1.size:Int)≤8) (h':¬(n1.size:Int)+(l1.size:Int)≤8) (HB1:∀ V,Below w.heap.size w V→Calls Tryz.prog 16 #[.agg #[.bool b1,.string m1,.bool d1,.string k1]] V (RetB V (.int .i64 ((m1.size:Int)+(k1.size:Int))))) (HB2:∀ V,Below w.heap.size w V→Calls Tryz.prog 16 #[.agg #[.bool c1,.string n1,.bool e1,.string l1]] V (RetB V (.int .i64 ((n1.size:Int)+(l1.size:Int))))) :
  Calls Tryz.prog 22 #[.agg #[.bool b1,.string m1,.bool d1,.string k1,.bool c1,.string n1,.bool e1,.string l1,.bool s1]] w (RetB w (.bool false)):=by
 have C1:=Lib.hid HB1
 have C2:=Lib.hid HB2
 clear HB1 HB2 
 go_enter Tryz.func22,Tryz.ntmps22
 exact wk0

set_option maxHeartbeats 8000000 in
set_option maxRecDepth 100000 in
theorem small_chk (w:World) {b1 d1 c1 e1 s1:Bool} {m1 k1 n1 l1:ByteArray} {o:Bool} (h:(m1.size:Int)+(k1.size:Int)≤8) (h':(n1.size:Int)+(l1.size:Int)≤8) (HB1:∀ V,Below w.heap.size w V→Calls Tryz.prog 16 #[.agg #[.bool b1,.string m1,.bool d1,.string k1]] V (RetB V (.int .i64 ((m1.size:Int)+(k1.size:Int))))) (HB2:∀ V,Below w.heap.size w V→Calls Tryz.prog 16 #[.agg #[.bool c1,.string n1,.bool e1,.string l1]] V (RetB V (.int .i64 ((n1.size:Int)+(l1.size:Int))))) (HC:∀ V,Below w.heap.size w V→Calls Tryz.prog 17 #[.agg #[.bool b1,.string m1,.bool d1,.string k1,.bool c1,.string n1,.bool e1,.string l1,.bool s1]] V (RetB V (.bool o))) :
  Calls Tryz.prog 22 #[.agg #[.bool b1,.string m1,.bool d1,.string k1,.bool c1,.string n1,.bool e1,.string l1,.bool s1]] w (RetB w (.bool o)):=by
 have C1:=Lib.hid HB1
 have C2:=Lib.hid HB2
 have C3:=Lib.hid HC
 clear HB1 HB2 HC 
 go_enter Tryz.func22,Tryz.ntmps22
 exact wk0

theorem sz8 {q:Rat} {b:Bool} {m k:ByteArray} (h:Rq q b m k) (hm:m.size≤8) (hk:k.size≤8):Sz 8 q:=by
 have h1:=bval_lt m
 rw [h.bval] at h1
 refine ⟨Nat.lt_of_lt_of_le h1 (Nat.pow_le_pow_right (by decide) hm),?_⟩
 by_cases hd:q.den=1
 · rw [hd];decide
 · have h2:=bval_lt k
   rw [h.den2 hd,bval_mag] at h2
   rw [h.den2 hd] at hk
   exact Nat.lt_of_lt_of_le h2 (Nat.pow_le_pow_right (by decide) hk)
theorem small_or (b1 d1 c1 e1 s1:Bool) (m1 k1 n1 l1:ByteArray) (t1:m1.size≤140737488351232) (t2:k1.size≤140737488351232) (t3:n1.size≤140737488351232) (t4:l1.size≤140737488351232) :
  ∃ o,(∀ V,Calls Tryz.prog 22 #[.agg #[.bool b1,.string m1,.bool d1,.string k1,.bool c1,.string n1,.bool e1,.string l1,.bool s1]] V (RetB V (.bool o)))∧(o=true→d1=false∧e1=false∧∃ x:Sg.Rl,x.Ok∧Rv x b1 m1 k1 c1 n1 l1 s1∧Rz 8 x):=by
 have HB1:=fun (w V:World) (_:Below w.heap.size w V)=>bytes_w b1 d1 m1 k1 t1 t2 V
 have HB2:=fun (w V:World) (_:Below w.heap.size w V)=>bytes_w c1 e1 n1 l1 t3 t4 V
 by_cases h:(m1.size:Int)+(k1.size:Int)≤8
 · by_cases h':(n1.size:Int)+(l1.size:Int)≤8
   · by_cases hp:d1=false∧∃ q,Rq q b1 m1 k1
     · by_cases hr:e1=false∧∃ q,Rq q c1 n1 l1
       · obtain ⟨rfl,p,hp⟩:=hp
         obtain ⟨rfl,r,hr⟩:=hr
         have C1:=fun (w V:World) (_:Below w.heap.size w V)=>rCheck_yes hp (by omega) (by omega) V
         have C2:=fun (w V:World) (_:Below w.heap.size w V)=>rCheck_yes hr (by omega) (by omega) V
         have C3:=fun (w V:World) (_:Below w.heap.size w V)=>rsign_z hr V
         have zp:=sz8 hp (by omega) (by omega)
         have zr:=sz8 hr (by omega) (by omega)
         rcases Sg.sgq_three r with ⟨g,e⟩ | ⟨g,e⟩ | ⟨g,e⟩
         · obtain rfl:c1=true:=by rw [hr.mag.1];exact decide_eq_true (num_neg_iff.2 g)
           rw [e] at C3
           exact ⟨false,fun V=>small_chk V h h' (HB1 V) (HB2 V) (fun V _=>fchk_neg V (C1 V) (C2 V) (C3 V) (fun V _=>zero_any V)),fun h=>by cases h⟩
         · obtain ⟨rfl,rfl,rfl⟩:=hr.nought.1 g
           rw [e] at C3
           refine ⟨!s1,fun V=>small_chk V h h' (HB1 V) (HB2 V) (fun V _=>fchk_zero V (C1 V) (C2 V) (C3 V) (fun V _=>zero_any V)),fun hs=>⟨rfl,rfl,⟨p,0,1⟩,⟨.inl rfl,.inl ⟨rfl,rfl⟩⟩,⟨hp,Rq.zero,?_⟩,⟨zp,Sz.zero 7⟩⟩⟩
           simpa using hs
         · rw [e] at C3
           by_cases hs:Sg.Sq r
           · obtain ⟨b2,m2,k2,h2⟩:=Rq.some_ (Sg.rt r)
             exact ⟨false,fun V=>small_chk V h h' (HB1 V) (HB2 V) (fun V _=>fchk_pos V (C1 V) (C2 V) (C3 V) (fun V _=>(root_yes_z hr (zr.up (by omega)) hs h2).2 V)),fun h=>by cases h⟩
           · refine ⟨true,fun V=>small_chk V h h' (HB1 V) (HB2 V) (fun V _=>fchk_pos V (C1 V) (C2 V) (C3 V) (fun V _=>(root_no_z hr (zr.up (by omega)) hs).2 V)),fun _=>⟨rfl,rfl,⟨p,r,if s1 then -1 else 1⟩,⟨?_,.inr ⟨g,Sg.nsq_sq.2 hs⟩⟩,⟨hp,hr,?_⟩,⟨zp,zr⟩⟩⟩
             · cases s1<;>simp
             · cases s1<;>simp
       · obtain ⟨rfl,p,hp⟩:=hp
         exact ⟨false,fun V=>small_chk V h h' (HB1 V) (HB2 V) (fun V _=>fchk_bad2 V (fun V _=>rCheck_yes hp (by omega) (by omega) V) (fun V _=>rCheck_no c1 n1 e1 l1 (by omega) (by omega) hr V)),fun h=>by cases h⟩
     · exact ⟨false,fun V=>small_chk V h h' (HB1 V) (HB2 V) (fun V _=>fchk_bad1 V (fun V _=>rCheck_no b1 m1 d1 k1 (by omega) (by omega) hp V)),fun h=>by cases h⟩
   · exact ⟨false,fun V=>small_no2 V h h' (HB1 V) (HB2 V),fun h=>by cases h⟩
 · exact ⟨false,fun V=>small_no1 V h (HB1 V),fun h=>by cases h⟩
end Go.Proofs.YtpnokfgplnmjpaaGreatDoor


namespace Go.Proofs.YtpnokfgplnmjpaaGreatDoor
open Go.RowKit
attribute [local go_sem ↓] Go.wp_at_zero Go.wp_at_succ

end Go.Proofs.YtpnokfgplnmjpaaGreatDoor


namespace Go.Proofs.YtpnokfgplnmjpaaGreatDoor
open Go.RowKit
attribute [local go_sem ↓] Go.wp_at_zero Go.wp_at_succ

end Go.Proofs.YtpnokfgplnmjpaaGreatDoor


namespace Go.Proofs.YtpnokfgplnmjpaaGreatDoor
open Go.RowKit
attribute [local go_sem ↓] Go.wp_at_zero Go.wp_at_succ

def Sg.Rl.nm (x:Sg.Rl):Rat:=x.p*x.p-x.a
noncomputable def Sg.Rl.iv (x:Sg.Rl):Sg.Rl:=Sg.mkR (x.p / x.nm) (((-x.s:Int):Rat) / x.nm) x.a
end Go.Proofs.YtpnokfgplnmjpaaGreatDoor


namespace Go.Proofs.YtpnokfgplnmjpaaGreatDoor
open Go.RowKit
attribute [local go_sem ↓] Go.wp_at_zero Go.wp_at_succ

set_option maxHeartbeats 8000000 in
set_option maxRecDepth 100000 in
theorem min_rat (w:World) {b1 b2:Bool} {m1 k1 m2 k2:ByteArray} (HW:∀ V,Below w.heap.size w V→Calls Tryz.prog 73 #[.int .i64 (1)] V (RetB V (.agg #[.bool false,.string ⟨#[1]⟩,.bool false,.string ⟨#[]⟩]))) (HI:∀ V,Below w.heap.size w V→Calls Tryz.prog 70 #[.agg #[.bool b1,.string m1,.bool false,.string k1,.bool false,.string ⟨#[]⟩,.bool false,.string ⟨#[]⟩,.bool false]] V (RetB V (.bool true))) (HN:∀ V,Below w.heap.size w V→Calls Tryz.prog 80 #[.agg #[.bool b1,.string m1,.bool false,.string k1]] V (RetB V (.agg #[.bool b2,.string m2,.bool false,.string k2]))) :
  Calls Tryz.prog 35 #[.agg #[.bool b1,.string m1,.bool false,.string k1,.bool false,.string ⟨#[]⟩,.bool false,.string ⟨#[]⟩,.bool false]] w (RetB w (.agg #[.bool b2,.string m2,.bool false,.string k2,.bool false,.string ⟨#[1]⟩,.bool false,.string ⟨#[]⟩,.bool false,.string ⟨#[]⟩,.bool false,.string ⟨#[]⟩])):=by
 have C1:=Lib.hid HW
 have C2:=Lib.hid HI
 have C3:=Lib.hid HN
 have RS:=Lib.hid Tryz.results35
 clear HW HI HN 
 go_enter Tryz.func35,Tryz.ntmps35
 exact wk0

set_option maxHeartbeats 8000000 in
set_option maxRecDepth 100000 in
theorem min_irr (w:World) {b1 c1 s1:Bool} {m1 k1 n1 l1:ByteArray} {b2 b3:Bool} {m2 k2 m3 k3:ByteArray} {bt:Bool} {mt:ByteArray} (HW:∀ V,Below w.heap.size w V→Calls Tryz.prog 73 #[.int .i64 (1)] V (RetB V (.agg #[.bool false,.string ⟨#[1]⟩,.bool false,.string ⟨#[]⟩]))) (HI:∀ V,Below w.heap.size w V→Calls Tryz.prog 70 #[.agg #[.bool b1,.string m1,.bool false,.string k1,.bool c1,.string n1,.bool false,.string l1,.bool s1]] V (RetB V (.bool false))) (HN:∀ V,Below w.heap.size w V→Calls Tryz.prog 90 #[.agg #[.bool b1,.string m1,.bool false,.string k1,.bool c1,.string n1,.bool false,.string l1,.bool s1]] V (RetB V (.agg #[.bool b2,.string m2,.bool false,.string k2]))) (HW2:∀ V,Below w.heap.size w V→Calls Tryz.prog 73 #[.int .i64 (-2)] V (RetB V (.agg #[.bool bt,.string mt,.bool false,.string ⟨#[]⟩]))) (HM:∀ V,Below w.heap.size w V→Calls Tryz.prog 75 #[.agg #[.bool bt,.string mt,.bool false,.string ⟨#[]⟩],.agg #[.bool b1,.string m1,.bool false,.string k1]] V (RetB V (.agg #[.bool b3,.string m3,.bool false,.string k3]))) :
  Calls Tryz.prog 35 #[.agg #[.bool b1,.string m1,.bool false,.string k1,.bool c1,.string n1,.bool false,.string l1,.bool s1]] w (RetB w (.agg #[.bool b2,.string m2,.bool false,.string k2,.bool b3,.string m3,.bool false,.string k3,.bool false,.string ⟨#[1]⟩,.bool false,.string ⟨#[]⟩])):=by
 have C1:=Lib.hid HW
 have C2:=Lib.hid HI
 have C3:=Lib.hid HN
 have C4:=Lib.hid HW2
 have C5:=Lib.hid HM
 have RS:=Lib.hid Tryz.results35
 clear HW HI HN HW2 HM 
 go_enter Tryz.func35,Tryz.ntmps35
 exact wk0

set_option maxHeartbeats 8000000 in
set_option maxRecDepth 100000 in
theorem fmin_rat (w:World) {b1 b2:Bool} {m1 k1 m2 k2:ByteArray} (HZ:∀ V,Below w.heap.size w V→Calls Tryz.prog 24 #[] V (RetB V (.agg #[.bool false,.string ⟨#[]⟩,.bool false,.string ⟨#[]⟩]))) (HN:∀ V,Below w.heap.size w V→Calls Tryz.prog 49 #[.agg #[.bool b1,.string m1,.bool false,.string k1]] V (RetB V (.agg #[.bool b2,.string m2,.bool false,.string k2]))) (HO:∀ V,Below w.heap.size w V→Calls Tryz.prog 84 #[] V (RetB V (.agg #[.bool false,.string ⟨#[1]⟩,.bool false,.string ⟨#[]⟩]))) :
  Calls Tryz.prog 36 #[.agg #[.bool b1,.string m1,.bool false,.string k1,.bool false,.string ⟨#[]⟩,.bool false,.string ⟨#[]⟩,.bool false]] w (RetB w (.agg #[.bool b2,.string m2,.bool false,.string k2,.bool false,.string ⟨#[1]⟩,.bool false,.string ⟨#[]⟩,.bool false,.string ⟨#[]⟩,.bool false,.string ⟨#[]⟩])):=by
 have C1:=Lib.hid HZ
 have C2:=Lib.hid HN
 have C3:=Lib.hid HO
 have RS:=Lib.hid Tryz.results36
 clear HZ HN HO 
 go_enter Tryz.func36,Tryz.ntmps36
 exact wk0

set_option maxHeartbeats 8000000 in
set_option maxRecDepth 100000 in
theorem fmin_irr (w:World) {b1 c1 s1:Bool} {m1 k1 n1 l1:ByteArray} {b2 b3 b4:Bool} {m2 k2 m3 k3 m4 k4:ByteArray} {bt:Bool} {mt:ByteArray} (hn:n1≠⟨#[]⟩) (HZ:∀ V,Below w.heap.size w V→Calls Tryz.prog 24 #[] V (RetB V (.agg #[.bool false,.string ⟨#[]⟩,.bool false,.string ⟨#[]⟩]))) (HP:∀ V,Below w.heap.size w V→Calls Tryz.prog 78 #[.agg #[.bool b1,.string m1,.bool false,.string k1],.agg #[.bool b1,.string m1,.bool false,.string k1]] V (RetB V (.agg #[.bool b2,.string m2,.bool false,.string k2]))) (HS:∀ V,Below w.heap.size w V→Calls Tryz.prog 83 #[.agg #[.bool b2,.string m2,.bool false,.string k2],.agg #[.bool c1,.string n1,.bool false,.string l1]] V (RetB V (.agg #[.bool b3,.string m3,.bool false,.string k3]))) (HW:∀ V,Below w.heap.size w V→Calls Tryz.prog 21 #[.int .i64 (-2)] V (RetB V (.agg #[.bool bt,.string mt,.bool false,.string ⟨#[]⟩]))) (HM:∀ V,Below w.heap.size w V→Calls Tryz.prog 78 #[.agg #[.bool bt,.string mt,.bool false,.string ⟨#[]⟩],.agg #[.bool b1,.string m1,.bool false,.string k1]] V (RetB V (.agg #[.bool b4,.string m4,.bool false,.string k4]))) (HO:∀ V,Below w.heap.size w V→Calls Tryz.prog 84 #[] V (RetB V (.agg #[.bool false,.string ⟨#[1]⟩,.bool false,.string ⟨#[]⟩]))) :
  Calls Tryz.prog 36 #[.agg #[.bool b1,.string m1,.bool false,.string k1,.bool c1,.string n1,.bool false,.string l1,.bool s1]] w (RetB w (.agg #[.bool b3,.string m3,.bool false,.string k3,.bool b4,.string m4,.bool false,.string k4,.bool false,.string ⟨#[1]⟩,.bool false,.string ⟨#[]⟩])):=by
 obtain ⟨e1,e2⟩:=str_ne hn
 have e3:=empty_no (size_pos hn)
 clear hn
 have C1:=Lib.hid HZ
 have C2:=Lib.hid HP
 have C3:=Lib.hid HS
 have C4:=Lib.hid HW
 have C5:=Lib.hid HM
 have C6:=Lib.hid HO
 have RS:=Lib.hid Tryz.results36
 clear HZ HP HS HW HM HO 
 go_enter Tryz.func36,Tryz.ntmps36
 exact wk0

theorem rmin_rat {p:Rat} {b1 b2:Bool} {m1 k1 m2 k2:ByteArray} (h1:Rq p b1 m1 k1) (h2:Rq (-p) b2 m2 k2) (w:World):Calls Tryz.prog 35 #[.agg #[.bool b1,.string m1,.bool false,.string k1,.bool false,.string ⟨#[]⟩,.bool false,.string ⟨#[]⟩,.bool false]] w (RetB w (.agg #[.bool b2,.string m2,.bool false,.string k2,.bool false,.string ⟨#[1]⟩,.bool false,.string ⟨#[]⟩,.bool false,.string ⟨#[]⟩,.bool false,.string ⟨#[]⟩])) :=
 min_rat w (fun V _=>rFromInt_f (x:=1) qo.num (by omega) (by omega) V) (fun V _=>isRat_yes _ _ _ _ V) (fun V _=>ratNeg_f h1 h2 V)
theorem rmin_irr {x:Sg.Rl} {b1 c1 s1:Bool} {m1 k1 n1 l1:ByteArray} {b2 b3:Bool} {m2 k2 m3 k3:ByteArray} (hx:Rv x b1 m1 k1 c1 n1 l1 s1) (ha:x.a≠0) (h2:Rq (x.p*x.p-x.a) b2 m2 k2) (h3:Rq (-2*x.p) b3 m3 k3) (zx:Rz 2000 x) (w:World) (hE:Env w):Calls Tryz.prog 35 #[.agg #[.bool b1,.string m1,.bool false,.string k1,.bool c1,.string n1,.bool false,.string l1,.bool s1]] w (RetB w (.agg #[.bool b2,.string m2,.bool false,.string k2,.bool b3,.string m3,.bool false,.string k3,.bool false,.string ⟨#[1]⟩,.bool false,.string ⟨#[]⟩])):=by
 obtain ⟨bt,mt,ht⟩:=Rq.int_ (q:=-2) rfl
 have zt:Sz 1 (-2):=⟨by decide +kernel,by decide +kernel⟩
 exact min_irr w (fun V _=>rFromInt_f (x:=1) qo.num (by omega) (by omega) V) (fun V _=>isRat_no hx ha V) (fun V hb=>norm_f hx h2 zx V (hE.next hb)) (fun V _=>rFromInt_f (x:=-2) ht.num (by omega) (by omega) V) (fun V hb=>mul_z ht hx.p h3 (zt.up (by omega)) (zx.p.up (by omega)) V (hE.next hb))
theorem gmin_rat {p:Rat} {b1 b2:Bool} {m1 k1 m2 k2:ByteArray} (h1:Rq p b1 m1 k1) (h2:Rq (-p) b2 m2 k2) (w:World):Calls Tryz.prog 36 #[.agg #[.bool b1,.string m1,.bool false,.string k1,.bool false,.string ⟨#[]⟩,.bool false,.string ⟨#[]⟩,.bool false]] w (RetB w (.agg #[.bool b2,.string m2,.bool false,.string k2,.bool false,.string ⟨#[1]⟩,.bool false,.string ⟨#[]⟩,.bool false,.string ⟨#[]⟩,.bool false,.string ⟨#[]⟩])) :=
 fmin_rat w (fun V _=>zero_any V) (fun V _=>rNeg_f h1 h2 V) (fun V _=>one_any V)
theorem gmin_irr {x:Sg.Rl} {b1 c1 s1:Bool} {m1 k1 n1 l1:ByteArray} {b2 b3:Bool} {m2 k2 m3 k3:ByteArray} (hx:Rv x b1 m1 k1 c1 n1 l1 s1) (ha:x.a≠0) (h2:Rq (x.p*x.p-x.a) b2 m2 k2) (h3:Rq (-2*x.p) b3 m3 k3) (zx:Rz 2000 x) (w:World):Calls Tryz.prog 36 #[.agg #[.bool b1,.string m1,.bool false,.string k1,.bool c1,.string n1,.bool false,.string l1,.bool s1]] w (RetB w (.agg #[.bool b2,.string m2,.bool false,.string k2,.bool b3,.string m3,.bool false,.string k3,.bool false,.string ⟨#[1]⟩,.bool false,.string ⟨#[]⟩])):=by
 obtain ⟨b4,m4,k4,h4⟩:=Rq.some_ (x.p*x.p)
 obtain ⟨bt,mt,ht⟩:=Rq.int_ (q:=-2) rfl
 have zt:Sz 1 (-2):=⟨by decide +kernel,by decide +kernel⟩
 exact fmin_irr w (hx.r.ne ha) (fun V _=>zero_any V) (fun V _=>rmul_z hx.p hx.p h4 (zx.p.up (by omega)) (zx.p.up (by omega)) V) (fun V _=>rsub_z h4 hx.r h2 ((zx.p.mul zx.p).up (by omega)) (zx.r.up (by omega)) V) (fun V _=>whole_f (x:=-2) ht.num (by omega) (by omega) V) (fun V _=>rmul_z ht hx.p h3 (zt.up (by omega)) (zx.p.up (by omega)) V) (fun V _=>one_any V)
end Go.Proofs.YtpnokfgplnmjpaaGreatDoor


namespace Go.Proofs.YtpnokfgplnmjpaaGreatDoor
open Go.RowKit
attribute [local go_sem ↓] Go.wp_at_zero Go.wp_at_succ

theorem Sb.find {w W:World} {l:List (Nat×Array Value×TypeId)} {rs:List (Option Addr×Nat×Nat×Nat)} {g:Nat} {cs:Array Value} {T:TypeId} (h:Sb w l rs W) {i:Nat} (hl:At l i (g,cs,T)):w.heap.size≤g∧W.heap[g]?=some (.cells cs T (0,0)) :=
 ⟨h.lo (g,cs,T) (List.mem_of_getElem? hl.get),h.k (g,cs,T) (List.mem_of_getElem? hl.get)⟩
set_option maxHeartbeats 8000000 in
set_option maxRecDepth 100000 in
theorem roots_lin (w:World) {b1 b2 b3 b4:Bool} {m1 k1 m2 k2 m3 k3 m4 k4:ByteArray} (hn:m2≠⟨#[]⟩) (HN:∀ V,Below w.heap.size w V→Calls Tryz.prog 80 #[.agg #[.bool b1,.string m1,.bool false,.string k1]] V (RetB V (.agg #[.bool b3,.string m3,.bool false,.string k3]))) (HR:∀ V,Below w.heap.size w V→Calls Tryz.prog 79 #[.agg #[.bool b3,.string m3,.bool false,.string k3],.agg #[.bool b2,.string m2,.bool false,.string k2]] V (RetB V (.agg #[.bool b4,.string m4,.bool false,.string k4]))) (HF:∀ V,Below w.heap.size w V→Calls Tryz.prog 25 #[.agg #[.bool b4,.string m4,.bool false,.string k4]] V (RetB V (.agg #[.bool b4,.string m4,.bool false,.string k4,.bool false,.string ⟨#[]⟩,.bool false,.string ⟨#[]⟩,.bool false]))) :
  Calls Tryz.prog 31 #[.agg #[.bool b1,.string m1,.bool false,.string k1,.bool b2,.string m2,.bool false,.string k2,.bool false,.string ⟨#[]⟩,.bool false,.string ⟨#[]⟩]] w (RetLs w #[.bool b4,.string m4,.bool false,.string k4,.bool false,.string ⟨#[]⟩,.bool false,.string ⟨#[]⟩,.bool false] 27 1):=by
 obtain ⟨e1,e2⟩:=str_ne hn
 have e3:=empty_no (size_pos hn)
 clear hn
 have C1:=Lib.hid HN
 have C2:=Lib.hid HR
 have C3:=Lib.hid HF
 cases b2
 all_goals
  have E1:Hid (∀ {p:Prop} (h:p:=by exact bodyPost_ret (v:=.tuple #[.slice (some ⟨_,0,none⟩) 1 1,.int .i64 0]) (by simp [results,Tryz.results31,go_sem]<;>rfl) rfl ⟨_,rfl,(X.out.find (by repeat (with_reducible first | exact At.here | exact At.last | apply At.there | apply At.left))).1,(X.out.find (by repeat (with_reducible first | exact At.here | exact At.last | apply At.there | apply At.left))).2,X.out.bel⟩),p):=@fun _ h=>h
  clear HN HR HF 
  go_enter Tryz.func31,Tryz.ntmps31
  go_upto_region 1 with fail
  refine gs1 (M:=fun W=>Code.wp _ _ _ _ W) (fun V X0=>?_)
  have X:=Lib.hid X0
  clear X0
  have F:=X.out.facts
  simp only [Facts,cellsAt,List.take_succ_cons,List.take_zero,Nat.reduceAdd,and_true,List.set_cons_succ,List.set_cons_zero,List.cons_append,List.nil_append] at F
  go_upto_region 2 with fail
  refine an X.out (fun V X0=>?_)
  replace X:=Lib.hid X0
  clear X0
  replace F:=X.out.facts
  simp only [Facts,cellsAt,List.take_succ_cons,List.take_zero,Nat.reduceAdd,and_true,List.set_cons_succ,List.set_cons_zero,List.cons_append,List.nil_append] at F
  obtain ⟨LL,hLL⟩:=lexi X.out
  go_cut [9] (fun s9 wx=>s9=.bool false∧Sb w LL [] wx)
  case first =>
   go_wp2_with fail
   all_goals (go_meet;subst hLL;exact ⟨rfl,X.out⟩)
  obtain ⟨rfl,hX⟩:=hcut
  subst hLL
  replace X:=Lib.hid hX
  clear hX
  replace F:=X.out.facts
  simp only [Facts,cellsAt,List.take_succ_cons,List.take_zero,Nat.reduceAdd,and_true,List.set_cons_succ,List.set_cons_zero,List.cons_append,List.nil_append] at F
  exact wk

end Go.Proofs.YtpnokfgplnmjpaaGreatDoor


namespace Go.Proofs.YtpnokfgplnmjpaaGreatDoor
open Go.RowKit
attribute [local go_sem ↓] Go.wp_at_zero Go.wp_at_succ

end Go.Proofs.YtpnokfgplnmjpaaGreatDoor


namespace Go.Proofs.YtpnokfgplnmjpaaGreatDoor
open Go.RowKit
attribute [local go_sem ↓] Go.wp_at_zero Go.wp_at_succ

theorem toList_one:(⟨#[1]⟩:ByteArray)≠⟨#[]⟩:=by decide

set_option maxHeartbeats 8000000 in
set_option maxRecDepth 100000 in
theorem minimal_no (w:World) {b1 d1 c1 e1 s1:Bool} {m1 k1 n1 l1:ByteArray} (HK:∀ V,Below w.heap.size w V→Calls Tryz.prog 15 #[] V (RetB V (.bool true))) (HS:∀ V,Below w.heap.size w V→Calls Tryz.prog 22 #[.agg #[.bool b1,.string m1,.bool d1,.string k1,.bool c1,.string n1,.bool e1,.string l1,.bool s1]] V (RetB V (.bool false))) :
  Calls Tryz.prog 6 #[.agg #[.bool b1,.string m1,.bool d1,.string k1,.bool c1,.string n1,.bool e1,.string l1,.bool s1]] w (RetB w (.bool true)):=by
 have C1:=Lib.hid HK
 have C2:=Lib.hid HS
 clear HK HS 
 go_enter Tryz.func6,Tryz.ntmps6
 exact wk0

set_option maxHeartbeats 8000000 in
set_option maxRecDepth 100000 in
theorem minimal_rat (w:World) {b1 b2:Bool} {m1 k1 m2 k2:ByteArray} (HRo:∀ V,Below w.heap.size w V→Calls Tryz.prog 31 #[.agg #[.bool b2,.string m2,.bool false,.string k2,.bool false,.string ⟨#[1]⟩,.bool false,.string ⟨#[]⟩,.bool false,.string ⟨#[]⟩,.bool false,.string ⟨#[]⟩]] V (RetLs V #[.bool b1,.string m1,.bool false,.string k1,.bool false,.string ⟨#[]⟩,.bool false,.string ⟨#[]⟩,.bool false] 27 1)) (HK:∀ V,Below w.heap.size w V→Calls Tryz.prog 15 #[] V (RetB V (.bool true))) (HS:∀ V,Below w.heap.size w V→Calls Tryz.prog 22 #[.agg #[.bool b1,.string m1,.bool false,.string k1,.bool false,.string ⟨#[]⟩,.bool false,.string ⟨#[]⟩,.bool false]] V (RetB V (.bool true))) (HM:∀ V,Below w.heap.size w V→Calls Tryz.prog 35 #[.agg #[.bool b1,.string m1,.bool false,.string k1,.bool false,.string ⟨#[]⟩,.bool false,.string ⟨#[]⟩,.bool false]] V (RetB V (.agg #[.bool b2,.string m2,.bool false,.string k2,.bool false,.string ⟨#[1]⟩,.bool false,.string ⟨#[]⟩,.bool false,.string ⟨#[]⟩,.bool false,.string ⟨#[]⟩]))) (HG:∀ V,Below w.heap.size w V→Calls Tryz.prog 36 #[.agg #[.bool b1,.string m1,.bool false,.string k1,.bool false,.string ⟨#[]⟩,.bool false,.string ⟨#[]⟩,.bool false]] V (RetB V (.agg #[.bool b2,.string m2,.bool false,.string k2,.bool false,.string ⟨#[1]⟩,.bool false,.string ⟨#[]⟩,.bool false,.string ⟨#[]⟩,.bool false,.string ⟨#[]⟩]))) (HZ:∀ V,Below w.heap.size w V→Calls Tryz.prog 24 #[] V (RetB V (.agg #[.bool false,.string ⟨#[]⟩,.bool false,.string ⟨#[]⟩]))) :
  Calls Tryz.prog 6 #[.agg #[.bool b1,.string m1,.bool false,.string k1,.bool false,.string ⟨#[]⟩,.bool false,.string ⟨#[]⟩,.bool false]] w (RetB w (.bool true)):=by
 have C6:=Lib.hid HRo
 have C1:=Lib.hid HK
 have C2:=Lib.hid HS
 have C3:=Lib.hid HM
 have C4:=Lib.hid HG
 have C5:=Lib.hid HZ
 have Z1:Hid (∀ {p:Prop} (h:p:=by ((go_at_call 31;(with_reducible refine (C6.out _ X.out.bel).mono ?_);rintro e u ⟨gl,rfl,hlo,hk9,hb9⟩;replace X:=Lib.hid (X.out.add hb9 hlo hk9);clear hb9 hlo hk9;replace F:=X.out.facts;simp only [Facts,cellsAt,List.take_succ_cons,List.take_zero,Nat.reduceAdd,and_true,List.set_cons_succ,List.set_cons_zero,List.cons_append,List.nil_append] at F);all_goals exact wk)),p):=@fun _ h=>h
 clear HRo HK HS HM HG HZ 
 go_enter Tryz.func6,Tryz.ntmps6
 exact wk0

set_option maxHeartbeats 8000000 in
set_option maxRecDepth 100000 in
theorem minimal_irr (w:World) {b1 c1 s1:Bool} {m1 k1 n1 l1:ByteArray} {b2 b3:Bool} {m2 k2 m3 k3:ByteArray} (hn:n1≠⟨#[]⟩) (HRo:∀ V,Below w.heap.size w V→Calls Tryz.prog 31 #[.agg #[.bool b2,.string m2,.bool false,.string k2,.bool b3,.string m3,.bool false,.string k3,.bool false,.string ⟨#[1]⟩,.bool false,.string ⟨#[]⟩]] V (RetLs V #[.bool b1,.string m1,.bool false,.string k1,.bool c1,.string n1,.bool false,.string l1,.bool true,.bool b1,.string m1,.bool false,.string k1,.bool c1,.string n1,.bool false,.string l1,.bool false] 27 2)) (HK:∀ V,Below w.heap.size w V→Calls Tryz.prog 15 #[] V (RetB V (.bool true))) (HS:∀ V,Below w.heap.size w V→Calls Tryz.prog 22 #[.agg #[.bool b1,.string m1,.bool false,.string k1,.bool c1,.string n1,.bool false,.string l1,.bool s1]] V (RetB V (.bool true))) (HM:∀ V,Below w.heap.size w V→Calls Tryz.prog 35 #[.agg #[.bool b1,.string m1,.bool false,.string k1,.bool c1,.string n1,.bool false,.string l1,.bool s1]] V (RetB V (.agg #[.bool b2,.string m2,.bool false,.string k2,.bool b3,.string m3,.bool false,.string k3,.bool false,.string ⟨#[1]⟩,.bool false,.string ⟨#[]⟩]))) (HG:∀ V,Below w.heap.size w V→Calls Tryz.prog 36 #[.agg #[.bool b1,.string m1,.bool false,.string k1,.bool c1,.string n1,.bool false,.string l1,.bool s1]] V (RetB V (.agg #[.bool b2,.string m2,.bool false,.string k2,.bool b3,.string m3,.bool false,.string k3,.bool false,.string ⟨#[1]⟩,.bool false,.string ⟨#[]⟩]))) (HZ:∀ V,Below w.heap.size w V→Calls Tryz.prog 24 #[] V (RetB V (.agg #[.bool false,.string ⟨#[]⟩,.bool false,.string ⟨#[]⟩]))) :
  Calls Tryz.prog 6 #[.agg #[.bool b1,.string m1,.bool false,.string k1,.bool c1,.string n1,.bool false,.string l1,.bool s1]] w (RetB w (.bool true)):=by
 obtain ⟨e1,e2⟩:=str_ne hn
 have e3:=empty_no (size_pos hn)
 clear hn
 have C6:=Lib.hid HRo
 have C1:=Lib.hid HK
 have C2:=Lib.hid HS
 have C3:=Lib.hid HM
 have C4:=Lib.hid HG
 have C5:=Lib.hid HZ
 cases s1
 all_goals
  have Z1:Hid (∀ {p:Prop} (h:p:=by ((go_at_call 31;(with_reducible refine (C6.out _ X.out.bel).mono ?_);rintro e u ⟨gl,rfl,hlo,hk9,hb9⟩;replace X:=Lib.hid (X.out.add hb9 hlo hk9);clear hb9 hlo hk9;replace F:=X.out.facts;simp only [Facts,cellsAt,List.take_succ_cons,List.take_zero,Nat.reduceAdd,and_true,List.set_cons_succ,List.set_cons_zero,List.cons_append,List.nil_append] at F);all_goals exact wk)),p):=@fun _ h=>h
  clear HRo HK HS HM HG HZ 
  go_enter Tryz.func6,Tryz.ntmps6
  exact wk0

theorem minimal_all (b1:Bool) (m1:ByteArray) (d1:Bool) (k1:ByteArray) (c1:Bool) (n1:ByteArray) (e1:Bool) (l1:ByteArray) (s1:Bool) (tm1:m1.size≤140737488351232) (tk1:k1.size≤140737488351232) (tn1:n1.size≤140737488351232) (tl1:l1.size≤140737488351232) (w:World) (hE:Env w):Calls Tryz.prog 6 #[.agg #[.bool b1,.string m1,.bool d1,.string k1,.bool c1,.string n1,.bool e1,.string l1,.bool s1]] w (RetB w (.bool true)):=by
 obtain ⟨o1,H1,P1⟩:=small_or b1 d1 c1 e1 s1 m1 k1 n1 l1 tm1 tk1 tn1 tl1
 have HK:=fun V (hb:Below w.heap.size w V)=>rknown3 V (hE.next hb)
 cases o1
 · exact minimal_no w HK (fun V _=>H1 V)
 obtain ⟨rfl,rfl,x,ok,hx,zx⟩:=P1 rfl
 rcases Sg.ok_cases ok with ⟨ha,hs⟩ | ⟨ha,hq⟩
 · obtain ⟨rfl,rfl,rfl⟩:=hx.r.nought.1 ha
   obtain rfl:s1=false:=by rw [hx.neg,hs];rfl
   obtain ⟨b2,m2,k2,h2⟩:=Rq.some_ (-x.p)
   refine minimal_rat w (fun V hb=>?_) HK (fun V _=>H1 V) (fun V _=>rmin_rat hx.p h2 V) (fun V _=>gmin_rat hx.p h2 V) (fun V _=>zero_any V)
   exact roots_lin V toList_one (fun V _=>ratNeg_f h2 (by rw [show -(-x.p)=x.p by grind];exact hx.p) V) (fun V hb2=>ratio_f hx.p qo (by rw [show x.p / 1=x.p by grind];exact hx.p) (by decide) (zx.p.up (by omega)) ((show Sz 1 1 from ⟨by decide,by decide⟩).up (by omega)) V ((hE.next hb).next hb2)) (fun V _=>fromRat_any _ _ _ V)
 · have ha0:x.a≠0:=by grind
   obtain ⟨b2,m2,k2,h2⟩:=Rq.some_ (x.p*x.p-x.a)
   obtain ⟨b3,m3,k3,h3⟩:=Rq.some_ (-2*x.p)
   have z2:=(zx.p.mul zx.p).sub zx.r
   have zt:Sz 1 (-2):=⟨by decide +kernel,by decide +kernel⟩
   have z1:Sz 1 1:=⟨by decide,by decide⟩
   refine minimal_irr w (hx.r.ne ha0) (fun V hb=>?_) HK (fun V _=>H1 V) (fun V hb=>rmin_irr hx ha0 h2 h3 ⟨zx.p.up (by omega),zx.r.up (by omega)⟩ V (hE.next hb)) (fun V _=>gmin_irr hx ha0 h2 h3 ⟨zx.p.up (by omega),zx.r.up (by omega)⟩ V) (fun V _=>zero_any V)
   have e:x.p*x.p-(x.p*x.p-x.a) / 1=x.a:=by grind
   have hR:∀ s:Int,∀ b:Bool,b=decide (s<0)→Rv (Sg.sumP x.p s (x.p*x.p-(x.p*x.p-x.a) / 1)) b1 m1 k1 c1 n1 l1 b:=fun s b hb=>by
    rw [e,sum_irr hq]
    exact ⟨hx.p,hx.r,by rw [hb];by_cases h:s<0<;>simp [h]⟩
   exact roots_two_false (p:=x.p) h2 h3 qo (by decide) (z2.up (by omega)) ((zt.mul zx.p).up (by omega)) (z1.up (by omega)) (by grind) (by rw [e];exact ha) (hR (-1) true rfl) (hR 1 false rfl) V (hE.next hb)
end Go.Proofs.YtpnokfgplnmjpaaGreatDoor
