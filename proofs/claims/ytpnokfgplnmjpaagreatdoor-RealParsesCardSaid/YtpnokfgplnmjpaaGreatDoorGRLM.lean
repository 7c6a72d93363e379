import Derived.Test.YtpnokfgplnmjpaaGreatDoorGRMI
import Derived.Test.YtpnokfgplnmjpaaGreatDoorGQW
import Derived.Test.YtpnokfgplnmjpaaGreatDoorGRHB
import Derived.Test.YtpnokfgplnmjpaaGreatDoorGRCA
import Derived.Test.YtpnokfgplnmjpaaGreatDoorGSgQ
import Derived.Test.YtpnokfgplnmjpaaGreatDoorGRCB
set_option linter.unusedSimpArgs false
set_option linter.unusedVariables false

namespace Go.Proofs.YtpnokfgplnmjpaaGreatDoor
open Go.RowKit
attribute [local go_sem ↓] Go.wp_at_zero Go.wp_at_succ

set_option maxHeartbeats 8000000 in
set_option maxRecDepth 100000 in
theorem readFr_00 (w:World) {t d x y:ByteArray} {b1:Bool} {m1:ByteArray} {b2:Bool} {m2:ByteArray} {b3:Bool} {m3:ByteArray} {b4:Bool} {m4 k4:ByteArray} {e:Int} (HC:∀ V,Below w.heap.size w V→Calls Tryz.prog 202 #[.string t,.string ⟨#[45]⟩] V (RetB V (.tuple #[.string d,.bool false]))) (HD:∀ V,Below w.heap.size w V→Calls Tryz.prog 164 #[.string d,.string ⟨#[47]⟩] V (RetB V (.tuple #[.string x,.string y,.bool false]))) (HR:∀ V,Below w.heap.size w V→Calls Tryz.prog 203 #[.string x] V (RetB V (.agg #[.bool b1,.string m1]))) (HI:∀ V,Below w.heap.size w V→Calls Tryz.prog 99 #[.int .i64 (1)] V (RetB V (.agg #[.bool false,.string ⟨#[1]⟩]))) (HM:∀ V,Below w.heap.size w V→Calls Tryz.prog 114 #[.agg #[.bool b1,.string m1],.agg #[.bool false,.string ⟨#[1]⟩]] V (RetB V (.tuple #[.agg #[.bool b4,.string m4,.bool false,.string k4],.int .i64 e]))) :
  Calls Tryz.prog 165 #[.string t] w (RetB w (.agg #[.bool b4,.string m4,.bool false,.string k4])):=by
 have C1:=Lib.hid HC
 have C2:=Lib.hid HD
 have C3:=Lib.hid HR
 have C4:=Lib.hid HI
 have C5:=Lib.hid HM
 have RS:=Lib.hid Tryz.results165
 clear HC HD HR HI HM 
 go_enter Tryz.func165,Tryz.ntmps165
 exact wk0

set_option maxHeartbeats 8000000 in
set_option maxRecDepth 100000 in
theorem readFr_01 (w:World) {t d x y:ByteArray} {b1:Bool} {m1:ByteArray} {b2:Bool} {m2:ByteArray} {b3:Bool} {m3:ByteArray} {b4:Bool} {m4 k4:ByteArray} {e:Int} (HC:∀ V,Below w.heap.size w V→Calls Tryz.prog 202 #[.string t,.string ⟨#[45]⟩] V (RetB V (.tuple #[.string d,.bool false]))) (HD:∀ V,Below w.heap.size w V→Calls Tryz.prog 164 #[.string d,.string ⟨#[47]⟩] V (RetB V (.tuple #[.string x,.string y,.bool true]))) (HR:∀ V,Below w.heap.size w V→Calls Tryz.prog 203 #[.string x] V (RetB V (.agg #[.bool b1,.string m1]))) (HI:∀ V,Below w.heap.size w V→Calls Tryz.prog 99 #[.int .i64 (1)] V (RetB V (.agg #[.bool false,.string ⟨#[1]⟩]))) (HS:∀ V,Below w.heap.size w V→Calls Tryz.prog 203 #[.string y] V (RetB V (.agg #[.bool b2,.string m2]))) (HM:∀ V,Below w.heap.size w V→Calls Tryz.prog 114 #[.agg #[.bool b1,.string m1],.agg #[.bool b2,.string m2]] V (RetB V (.tuple #[.agg #[.bool b4,.string m4,.bool false,.string k4],.int .i64 e]))) :
  Calls Tryz.prog 165 #[.string t] w (RetB w (.agg #[.bool b4,.string m4,.bool false,.string k4])):=by
 have C1:=Lib.hid HC
 have C2:=Lib.hid HD
 have C3:=Lib.hid HR
 have C4:=Lib.hid HI
 have C5:=Lib.hid HS
 have C6:=Lib.hid HM
 have RS:=Lib.hid Tryz.results165
 clear HC HD HR HI HS HM 
 go_enter Tryz.func165,Tryz.ntmps165
 exact wk0

set_option maxHeartbeats 8000000 in
set_option maxRecDepth 100000 in
theorem readFr_10 (w:World) {t d x y:ByteArray} {b1:Bool} {m1:ByteArray} {b2:Bool} {m2:ByteArray} {b3:Bool} {m3:ByteArray} {b4:Bool} {m4 k4:ByteArray} {e:Int} (HC:∀ V,Below w.heap.size w V→Calls Tryz.prog 202 #[.string t,.string ⟨#[45]⟩] V (RetB V (.tuple #[.string d,.bool true]))) (HD:∀ V,Below w.heap.size w V→Calls Tryz.prog 164 #[.string d,.string ⟨#[47]⟩] V (RetB V (.tuple #[.string x,.string y,.bool false]))) (HR:∀ V,Below w.heap.size w V→Calls Tryz.prog 203 #[.string x] V (RetB V (.agg #[.bool b1,.string m1]))) (HI:∀ V,Below w.heap.size w V→Calls Tryz.prog 99 #[.int .i64 (1)] V (RetB V (.agg #[.bool false,.string ⟨#[1]⟩]))) (HN:∀ V,Below w.heap.size w V→Calls Tryz.prog 107 #[.agg #[.bool b1,.string m1]] V (RetB V (.agg #[.bool b3,.string m3]))) (HM:∀ V,Below w.heap.size w V→Calls Tryz.prog 114 #[.agg #[.bool b3,.string m3],.agg #[.bool false,.string ⟨#[1]⟩]] V (RetB V (.tuple #[.agg #[.bool b4,.string m4,.bool false,.string k4],.int .i64 e]))) :
  Calls Tryz.prog 165 #[.string t] w (RetB w (.agg #[.bool b4,.string m4,.bool false,.string k4])):=by
 have C1:=Lib.hid HC
 have C2:=Lib.hid HD
 have C3:=Lib.hid HR
 have C4:=Lib.hid HI
 have C5:=Lib.hid HN
 have C6:=Lib.hid HM
 have RS:=Lib.hid Tryz.results165
 clear HC HD HR HI HN HM 
 go_enter Tryz.func165,Tryz.ntmps165
 exact wk0

set_option maxHeartbeats 8000000 in
set_option maxRecDepth 100000 in
theorem readFr_11 (w:World) {t d x y:ByteArray} {b1:Bool} {m1:ByteArray} {b2:Bool} {m2:ByteArray} {b3:Bool} {m3:ByteArray} {b4:Bool} {m4 k4:ByteArray} {e:Int} (HC:∀ V,Below w.heap.size w V→Calls Tryz.prog 202 #[.string t,.string ⟨#[45]⟩] V (RetB V (.tuple #[.string d,.bool true]))) (HD:∀ V,Below w.heap.size w V→Calls Tryz.prog 164 #[.string d,.string ⟨#[47]⟩] V (RetB V (.tuple #[.string x,.string y,.bool true]))) (HR:∀ V,Below w.heap.size w V→Calls Tryz.prog 203 #[.string x] V (RetB V (.agg #[.bool b1,.string m1]))) (HI:∀ V,Below w.heap.size w V→Calls Tryz.prog 99 #[.int .i64 (1)] V (RetB V (.agg #[.bool false,.string ⟨#[1]⟩]))) (HS:∀ V,Below w.heap.size w V→Calls Tryz.prog 203 #[.string y] V (RetB V (.agg #[.bool b2,.string m2]))) (HN:∀ V,Below w.heap.size w V→Calls Tryz.prog 107 #[.agg #[.bool b1,.string m1]] V (RetB V (.agg #[.bool b3,.string m3]))) (HM:∀ V,Below w.heap.size w V→Calls Tryz.prog 114 #[.agg #[.bool b3,.string m3],.agg #[.bool b2,.string m2]] V (RetB V (.tuple #[.agg #[.bool b4,.string m4,.bool false,.string k4],.int .i64 e]))) :
  Calls Tryz.prog 165 #[.string t] w (RetB w (.agg #[.bool b4,.string m4,.bool false,.string k4])):=by
 have C1:=Lib.hid HC
 have C2:=Lib.hid HD
 have C3:=Lib.hid HR
 have C4:=Lib.hid HI
 have C5:=Lib.hid HS
 have C6:=Lib.hid HN
 have C7:=Lib.hid HM
 have RS:=Lib.hid Tryz.results165
 clear HC HD HR HI HS HN HM 
 go_enter Tryz.func165,Tryz.ntmps165
 exact wk0

set_option maxHeartbeats 8000000 in
set_option maxRecDepth 100000 in
theorem read_rat (w:World) {s x y:ByteArray} {b1:Bool} {m1 k1:ByteArray} (HC:∀ V,Below w.heap.size w V→Calls Tryz.prog 164 #[.string s,.string ⟨#[115,113,114,116,40]⟩] V (RetB V (.tuple #[.string x,.string y,.bool false]))) (HR:∀ V,Below w.heap.size w V→Calls Tryz.prog 165 #[.string s] V (RetB V (.agg #[.bool b1,.string m1,.bool false,.string k1]))) (HF:∀ V,Below w.heap.size w V→Calls Tryz.prog 25 #[.agg #[.bool b1,.string m1,.bool false,.string k1]] V (RetB V (.agg #[.bool b1,.string m1,.bool false,.string k1,.bool false,.string ⟨#[]⟩,.bool false,.string ⟨#[]⟩,.bool false]))) :
  Calls Tryz.prog 116 #[.string s] w (RetB w (.agg #[.bool b1,.string m1,.bool false,.string k1,.bool false,.string ⟨#[]⟩,.bool false,.string ⟨#[]⟩,.bool false])):=by
 have C1:=Lib.hid HC
 have C2:=Lib.hid HR
 have C3:=Lib.hid HF
 have RS:=Lib.hid Tryz.results116
 clear HC HR HF 
 go_enter Tryz.func116,Tryz.ntmps116
 exact wk0

set_option maxHeartbeats 8000000 in
set_option maxRecDepth 100000 in
theorem read_irr (w:World) {s x y p u v:ByteArray} {n:Bool} {b1:Bool} {m1 k1:ByteArray} {c1:Bool} {n1 l1:ByteArray} (HC:∀ V,Below w.heap.size w V→Calls Tryz.prog 164 #[.string s,.string ⟨#[115,113,114,116,40]⟩] V (RetB V (.tuple #[.string x,.string y,.bool true]))) (HD:∀ V,Below w.heap.size w V→Calls Tryz.prog 166 #[.string x,.string ⟨#[45]⟩] V (RetB V (.tuple #[.string p,.bool n]))) (HT:∀ V,Below w.heap.size w V→Calls Tryz.prog 167 #[.string p,.string ⟨#[43]⟩] V (RetB V (.string u))) (HR:∀ V,Below w.heap.size w V→Calls Tryz.prog 165 #[.string u] V (RetB V (.agg #[.bool b1,.string m1,.bool false,.string k1]))) (HU:∀ V,Below w.heap.size w V→Calls Tryz.prog 167 #[.string y,.string ⟨#[41]⟩] V (RetB V (.string v))) (HS:∀ V,Below w.heap.size w V→Calls Tryz.prog 165 #[.string v] V (RetB V (.agg #[.bool c1,.string n1,.bool false,.string l1]))) :
  Calls Tryz.prog 116 #[.string s] w (RetB w (.agg #[.bool b1,.string m1,.bool false,.string k1,.bool c1,.string n1,.bool false,.string l1,.bool n])):=by
 have C1:=Lib.hid HC
 have C2:=Lib.hid HD
 have C3:=Lib.hid HT
 have C4:=Lib.hid HR
 have C5:=Lib.hid HU
 have C6:=Lib.hid HS
 have RS:=Lib.hid Tryz.results116
 clear HC HD HT HR HU HS 
 go_enter Tryz.func116,Tryz.ntmps116
 exact wk0

set_option maxHeartbeats 8000000 in
set_option maxRecDepth 100000 in
theorem parse_ok3 (w:World) {b1 c1 s1:Bool} {m1 k1 n1 l1:ByteArray} {s:ByteArray} (HR:∀ V,Below w.heap.size w V→Calls Tryz.prog 116 #[.string s] V (RetB V (.agg #[.bool b1,.string m1,.bool false,.string k1,.bool c1,.string n1,.bool false,.string l1,.bool s1]))) (HC:∀ V,Below w.heap.size w V→Calls Tryz.prog 18 #[.agg #[.bool b1,.string m1,.bool false,.string k1,.bool c1,.string n1,.bool false,.string l1,.bool s1]] V (RetB V (.int .i64 (0)))) (HQ:∀ V,Below w.heap.size w V→Calls Tryz.prog 63 #[.agg #[.bool b1,.string m1,.bool false,.string k1,.bool c1,.string n1,.bool false,.string l1,.bool s1]] V (RetB V (.string s))) :
  Calls Tryz.prog 64 #[.string s] w (RetB w (.tuple #[.agg #[.bool b1,.string m1,.bool false,.string k1,.bool c1,.string n1,.bool false,.string l1,.bool s1],.int .i64 0])):=by
 have C1:=Lib.hid HR
 have C2:=Lib.hid HC
 have C3:=Lib.hid HQ
 have RS:=Lib.hid Tryz.results64
 clear HR HC HQ 
 go_enter Tryz.func64,Tryz.ntmps64
 exact wk0

set_option maxHeartbeats 8000000 in
set_option maxRecDepth 100000 in
theorem parse_no1 (w:World) {b1 c1 s1:Bool} {m1 k1 n1 l1:ByteArray} {s t:ByteArray} (HR:∀ V,Below w.heap.size w V→Calls Tryz.prog 116 #[.string s] V (RetB V (.agg #[.bool b1,.string m1,.bool false,.string k1,.bool c1,.string n1,.bool false,.string l1,.bool s1]))) (HC:∀ V,Below w.heap.size w V→Calls Tryz.prog 18 #[.agg #[.bool b1,.string m1,.bool false,.string k1,.bool c1,.string n1,.bool false,.string l1,.bool s1]] V (RetB V (.int .i64 (5)))) :
  Calls Tryz.prog 64 #[.string s] w (RetB w (.tuple #[.agg #[.bool false,.string ⟨#[]⟩,.bool false,.string ⟨#[]⟩,.bool false,.string ⟨#[]⟩,.bool false,.string ⟨#[]⟩,.bool false],.int .i64 15])):=by
 have C1:=Lib.hid HR
 have C2:=Lib.hid HC
 have RS:=Lib.hid Tryz.results64
 clear HR HC 
 go_enter Tryz.func64,Tryz.ntmps64
 exact wk0

set_option maxHeartbeats 8000000 in
set_option maxRecDepth 100000 in
theorem parse_no2 (w:World) {b1 c1 s1:Bool} {m1 k1 n1 l1:ByteArray} {s t:ByteArray} (hne:t≠s) (HR:∀ V,Below w.heap.size w V→Calls Tryz.prog 116 #[.string s] V (RetB V (.agg #[.bool b1,.string m1,.bool false,.string k1,.bool c1,.string n1,.bool false,.string l1,.bool s1]))) (HC:∀ V,Below w.heap.size w V→Calls Tryz.prog 18 #[.agg #[.bool b1,.string m1,.bool false,.string k1,.bool c1,.string n1,.bool false,.string l1,.bool s1]] V (RetB V (.int .i64 (0)))) (HQ:∀ V,Below w.heap.size w V→Calls Tryz.prog 63 #[.agg #[.bool b1,.string m1,.bool false,.string k1,.bool c1,.string n1,.bool false,.string l1,.bool s1]] V (RetB V (.string t))) :
  Calls Tryz.prog 64 #[.string s] w (RetB w (.tuple #[.agg #[.bool false,.string ⟨#[]⟩,.bool false,.string ⟨#[]⟩,.bool false,.string ⟨#[]⟩,.bool false,.string ⟨#[]⟩,.bool false],.int .i64 15])):=by
 obtain ⟨e1,e2⟩:=str_ne hne
 clear hne
 have C1:=Lib.hid HR
 have C2:=Lib.hid HC
 have C3:=Lib.hid HQ
 have RS:=Lib.hid Tryz.results64
 clear HR HC HQ 
 go_enter Tryz.func64,Tryz.ntmps64
 exact wk0
end Go.Proofs.YtpnokfgplnmjpaaGreatDoor


namespace Go.Proofs.YtpnokfgplnmjpaaGreatDoor
open Go.RowKit
attribute [local go_sem ↓] Go.wp_at_zero Go.wp_at_succ

theorem rcmp_b (A B:Option Addr) (n m c d X Y:Nat) (w:World) (hn:n≤1000000000) (hm:m≤1000000000) (hx:Tr w A n c X) (hy:Tr w B m d Y) :
  Calls Tryz.prog 121 #[.slice A n c,.slice B m d] w (RetB w (.int .i64 (ord X Y))):=by
 refine (rcompare_any A B n m c d X Y w hn hm hx hy).mono ?_
 rintro e w' ⟨rfl,nn,rfl⟩
 exact ⟨rfl,below_draws (Below.refl _ _) nn⟩
theorem rcmp_eq (A B:Option Addr) (n m c d:Nat) {X Y:Nat} (w:World) (hn:n≤1000000000) (hm:m≤1000000000) (h:X=Y) (hx:Tr w A n c X) (hy:Tr w B m d Y) :
  Calls Tryz.prog 121 #[.slice A n c,.slice B m d] w (RetB w (.int .i64 0)):=by
 have h1:=rcmp_b A B n m c d X Y w hn hm hx hy
 rw [h,ord_eq] at h1
 exact h1
theorem rcmp_lt (A B:Option Addr) (n m c d:Nat) {X Y:Nat} (w:World) (hn:n≤1000000000) (hm:m≤1000000000) (h:X<Y) (hx:Tr w A n c X) (hy:Tr w B m d Y) :
  Calls Tryz.prog 121 #[.slice A n c,.slice B m d] w (RetB w (.int .i64 (-1))):=by
 have h1:=rcmp_b A B n m c d X Y w hn hm hx hy
 rw [ord_lt h] at h1
 exact h1
theorem isSq_no {x:Int} {b:Bool} {m:ByteArray} (hx:enc x=.agg #[.bool b,.string m]) (h:x<0∨rt x.natAbs*rt x.natAbs≠x.natAbs) (s:m.size≤30000) (w:World) :
  Calls Tryz.prog 128 #[.agg #[.bool b,.string m]] w (RetB w (.tuple #[.agg #[.bool false,.string ⟨#[]⟩],.bool false])):=by
 by_cases h0:x<0
 · exact isSquare_neg hx h0 w
 · have h1:=h.resolve_left h0
   obtain ⟨bp,mp,hp⟩:=enc_form (((rt x.natAbs:Nat):Int)*((rt x.natAbs:Nat):Int))
   have hs:(mag (rt x.natAbs)).size≤40000:=by
    have h2:=nd_mono (rt_self x.natAbs)
    have h3:nd x.natAbs≤30000:=by unfold nd;rw [←(enc_parts hx).2];exact s
    unfold nd at h2 h3
    omega
   refine (isSquare_f hx (by omega) (by omega) (enc_mag _) hp hs w).mono ?_
   intro e w' hw
   have hne:¬((rt x.natAbs:Nat):Int)*((rt x.natAbs:Nat):Int)=x:=fun e=>h1 (by
    rw [←Int.natCast_mul] at e
    omega)
   rw [if_neg hne] at hw
   exact hw

set_option maxHeartbeats 4000000 in
set_option maxRecDepth 100000 in
theorem ratRoot_no1 {q:Rat} {b:Bool} {m k:ByteArray} (h:Rq q b m k) (hno:q.num<0∨rt q.num.natAbs*rt q.num.natAbs≠q.num.natAbs) (s1:m.size≤30000) (w:World) :
  Calls Tryz.prog 72 #[.agg #[.bool b,.string m,.bool false,.string k]] w (RetB w (.tuple #[.agg #[.bool false,.string ⟨#[]⟩,.bool false,.string ⟨#[]⟩],.bool false])):=by
 have HI:=Lib.hid (fun V=>isSq_no h.num hno (by omega) V)
 have X:=Lib.hid (((Sb.start w).new #[.bool b,.string m,.bool false,.string k] 25).new #[.bool false,.string ⟨#[]⟩,.bool false,.string ⟨#[]⟩] 25)
 have X:=Lib.hid (X.out.pick [0,1] [(w.heap.size,#[.bool b,.string m,.bool false,.string k],25),(w.heap.size+1,#[.bool false,.string ⟨#[]⟩,.bool false,.string ⟨#[]⟩],25)] [] (by simp) (by decide) (by simp))
 clear h hno s1
 go_enter Tryz.func72,Tryz.ntmps72
 obtain ⟨a0,a1,a2,a3⟩:=X.out.c4 (i:=0) rfl
 go_wp2_with fail
 refine (HI.out _).mono ?_
 rintro e u1 ⟨rfl,hb9⟩
 have X:=Lib.hid (X.out.next hb9)
 clear hb9
 clear a0 a1 a2 a3
 go_upto_region 2 with fail
 have X:=Lib.hid (X.out.new #[.bool false,.string ⟨#[]⟩] 23)
 obtain ⟨W1,hV⟩:=wexi X.out
 rw [←hV] at X ⊢
 clear hV
 obtain ⟨x0,x1,x2,x3⟩:=X.out.c4 (i:=1) rfl
 obtain ⟨y0,y1,y2,y3⟩:=X.out.f4 (i:=1) rfl
 go_wp2
 have X:=Lib.hid (X.out.set4 (i:=1) rfl (.bool false) (.string ⟨#[]⟩) (.bool false) (.string ⟨#[]⟩))
 obtain ⟨p0,p1,p2,p3⟩:=X.out.c4 (i:=1) rfl
 exact bodyPost_ret (v:=.tuple #[.agg #[.bool false,.string ⟨#[]⟩,.bool false,.string ⟨#[]⟩],.bool false]) (by simp [results,Tryz.results72,go_sem,p0,p1,p2,p3]) rfl ⟨rfl,X.out.bel⟩

set_option maxHeartbeats 4000000 in
set_option maxRecDepth 100000 in
theorem ratRoot_no2 {q:Rat} {m k:ByteArray} (h:Rq q false m k) {N:Nat} (hN:q.num.natAbs=N*N) (hno:rt q.den*rt q.den≠q.den) (s1:(mag (N*N)).size≤30000) (s2:(mag q.den).size≤30000) (w:World) (hE:Env w) :
  Calls Tryz.prog 72 #[.agg #[.bool false,.string m,.bool false,.string k]] w (RetB w (.tuple #[.agg #[.bool false,.string ⟨#[]⟩,.bool false,.string ⟨#[]⟩],.bool false])):=by
 obtain rfl:m=mag (N*N):=by rw [h.mag.2,hN]
 have HI:=Lib.hid (fun V=>isSq_yes N s1 V)
 have HD:=Lib.hid (fun V (hV:Env V)=>den_f h V hV)
 have HJ:=Lib.hid (fun V=>isSq_no (x:=(q.den:Int)) (enc_mag q.den) (.inr (by rw [Int.natAbs_natCast];exact hno)) s2 V)
 have HE:=Lib.hid (fun V (hb:Below w.heap.size w V)=>hE.next hb)
 generalize mag (N*N)=mN at *
 generalize mag N=rN at *
 generalize mag q.den=mD at *
 have X:=Lib.hid (((Sb.start w).new #[.bool false,.string mN,.bool false,.string k] 25).new #[.bool false,.string ⟨#[]⟩,.bool false,.string ⟨#[]⟩] 25)
 have X:=Lib.hid (X.out.pick [0,1] [(w.heap.size,#[.bool false,.string mN,.bool false,.string k],25),(w.heap.size+1,#[.bool false,.string ⟨#[]⟩,.bool false,.string ⟨#[]⟩],25)] [] (by simp) (by decide) (by simp))
 clear h hN hno s1 s2 hE
 go_enter Tryz.func72,Tryz.ntmps72
 obtain ⟨a0,a1,a2,a3⟩:=X.out.c4 (i:=0) rfl
 go_wp2_with fail
 refine (HI.out _).mono ?_
 rintro e u1 ⟨rfl,hb9⟩
 have X:=Lib.hid (X.out.next hb9)
 clear hb9
 clear a0 a1 a2 a3
 go_upto_region 4 with fail
 have X:=Lib.hid (X.out.new #[.bool false,.string rN] 23)
 obtain ⟨W1,hV⟩:=wexi X.out
 rw [←hV] at X ⊢
 clear hV
 obtain ⟨a0,a1,a2,a3⟩:=X.out.c4 (i:=0) rfl
 go_wp2_with fail
 refine (HD.out _ (HE.out _ X.out.bel)).mono ?_
 rintro e u2 ⟨rfl,hb9⟩
 have X:=Lib.hid (X.out.next hb9)
 clear hb9
 clear a0 a1 a2 a3
 go_wp2_with fail
 refine (HJ.out _).mono ?_
 rintro e u3 ⟨rfl,hb9⟩
 have X:=Lib.hid (X.out.next hb9)
 clear hb9
 go_upto_region 5 with fail
 have X:=Lib.hid (X.out.new #[.bool false,.string ⟨#[]⟩] 23)
 obtain ⟨W2,hV⟩:=wexi X.out
 rw [←hV] at X ⊢
 clear hV
 obtain ⟨x0,x1,x2,x3⟩:=X.out.c4 (i:=1) rfl
 obtain ⟨y0,y1,y2,y3⟩:=X.out.f4 (i:=1) rfl
 go_wp2
 have X:=Lib.hid (X.out.set4 (i:=1) rfl (.bool false) (.string ⟨#[]⟩) (.bool false) (.string ⟨#[]⟩))
 obtain ⟨p0,p1,p2,p3⟩:=X.out.c4 (i:=1) rfl
 exact bodyPost_ret (v:=.tuple #[.agg #[.bool false,.string ⟨#[]⟩,.bool false,.string ⟨#[]⟩],.bool false]) (by simp [results,Tryz.results72,go_sem,p0,p1,p2,p3]) rfl ⟨rfl,X.out.bel⟩

set_option maxHeartbeats 8000000 in
set_option maxRecDepth 100000 in
theorem rRoot_neg {p:Rat} {m k:ByteArray} (h:Rq p true m k) (s1:m.size≤9000) (s2:(mag p.den).size≤9000) (w:World) :
  Calls Tryz.prog 68 #[.agg #[.bool true,.string m,.bool false,.string k]] w (RetB w (.tuple #[.agg #[.bool false,.string ⟨#[]⟩,.bool false,.string ⟨#[]⟩],.bool false])):=by
 have hk:k.size≤9000:=by
  by_cases hd:p.den=1
  · rw [h.den1 hd];exact Nat.zero_le _
  · rw [h.den2 hd];exact s2
 have HF:=Lib.hid (fun V=>rof2 h (by omega) (by omega) V)
 have n0:nd p.num.natAbs≤9000:=by unfold nd;rw [←h.mag.2];exact s1
 have n1':nd p.den≤9000:=s2
 have hd0:=p.den_pos
 generalize p.num.natAbs=NN at *
 generalize p.den=DD at *
 have r0:nd (rt NN)≤9000:=Nat.le_trans (nd_mono (rt_self NN)) n0
 have r1:nd (rt DD)≤9000:=Nat.le_trans (nd_mono (rt_self DD)) n1'
 have rp:=rt_pos hd0
 have q0:=nd_mul (rt NN) (rt NN)
 have q1:=nd_mul (rt DD) (rt DD)
 have HRN:=Lib.hid (fun (A:Option Addr) (n c:Nat) (V:World) (ht:Tr V A n c NN)=>rroot A n c NN V (by have:=ht.ln;omega) ht)
 have HRD:=Lib.hid (fun (A:Option Addr) (n c:Nat) (V:World) (ht:Tr V A n c DD)=>rroot A n c DD V (by have:=ht.ln;omega) ht)
 clear n0 n1' hd0 r0 r1 rp q0 q1 hk s1 s2 h
 generalize rt NN=RN at *
 generalize rt DD=RD at *
 have X:=Lib.hid (((Sb.start w).new #[.bool true,.string m,.bool false,.string k] 25).new #[.bool false,.string ⟨#[]⟩,.bool false,.string ⟨#[]⟩] 25)
 have X:=Lib.hid (X.out.pick [0,1] [(w.heap.size,#[.bool true,.string m,.bool false,.string k],25),(w.heap.size+1,#[.bool false,.string ⟨#[]⟩,.bool false,.string ⟨#[]⟩],25)] [] (by simp) (by decide) (by simp))
 go_enter Tryz.func68,Tryz.ntmps68
 obtain ⟨a0,a1,a2,a3⟩:=X.out.c4 (i:=0) rfl
 go_wp2_with fail
 refine (HF.out _).mono ?_
 rintro e u1 ⟨A1,n1,c1,B1,n2,c2,rfl,ht9,hu9,hb9,hf9,hg9⟩
 have X:=Lib.hid (X.out.row2 hb9 ht9 hu9 hf9 hg9)
 clear hb9 ht9 hu9 hf9 hg9 a0 a1 a2 a3
 go_upto_region 2 with fail
 have X:=Lib.hid (X.out.new #[.bool true,.slice A1 n1 c1,.slice B1 n2 c2] 110)
 obtain ⟨gF,hgF⟩:∃ g,g=u1.heap.size:=⟨_,rfl⟩
 rw [←hgF] at X ⊢
 obtain ⟨W1,hV⟩:=wexi X.out
 rw [←hV] at X ⊢
 clear hV
 clear hgF
 go_cut [5,6] (fun s5 s6 wx=>∃ A5 n5 c5 A6 n6 c6,s5=.slice A5 n5 c5∧s6=.slice A6 n6 c6∧Tr wx A5 n5 c5 RN∧Tr wx A6 n6 c6 RD∧Sb w [(w.heap.size,#[.bool true,.string m,.bool false,.string k],25),(w.heap.size+1,#[.bool false,.string ⟨#[]⟩,.bool false,.string ⟨#[]⟩],25),(gF,#[.bool true,.slice A1 n1 c1,.slice B1 n2 c2],110)] [(A1,n1,c1,NN),(B1,n2,c2,DD)] wx)
 case first =>
  refine wp_region_late (S:=fun w'=>(w'.cell? ⟨gF,0,none⟩=some (.bool true)∧w'.cell? ⟨gF,1,none⟩=some (.slice A1 n1 c1)∧w'.cell? ⟨gF,2,none⟩=some (.slice B1 n2 c2))) (L:=[]) (by kernel_rfl) ?_
  have X:=Lib.hid X.out.drew
  obtain ⟨V0,hV⟩:=wexi X.out
  rw [←hV] at X ⊢
  clear hV
  refine tk (i:=0) (oi:=⟨some 9,_,_,_,_,_⟩) (v:=_) rfl (by kernel_rfl) (fun _ _ _ h=>h) (X.out.c3 (i:=2) rfl) (Or.inl ⟨by rfl,by intro w hSw;(try dsimp only at hSw);(first | (go_simp;done) | (go_simp;with_reducible rfl))⟩) ?_
  try simp only [Act.put,seti,set0,setS]
  refine tk (i:=1) (oi:=⟨some 10,_,_,_,_,_⟩) (v:=_) rfl (by kernel_rfl) (fun _ _ _ h=>h) (X.out.c3 (i:=2) rfl) (Or.inl ⟨by rfl,by intro w hSw;(try dsimp only at hSw);(first | (go_simp;done) | (go_simp;with_reducible rfl))⟩) ?_
  try simp only [Act.put,seti,set0,setS]
  refine tk (i:=3) (oi:=⟨some 12,_,_,_,_,_⟩) (v:=_) rfl (by kernel_rfl) (fun _ _ _ h=>h) (X.out.c3 (i:=2) rfl) (Or.inl ⟨by rfl,by intro w hSw;(try dsimp only at hSw);(first | (go_simp;done) | (go_simp;with_reducible rfl))⟩) ?_
  try simp only [Act.put,seti,set0,setS]
  refine tk (i:=4) (oi:=⟨some 13,_,_,_,_,_⟩) (v:=_) rfl (by kernel_rfl) (fun _ _ _ h=>h) (X.out.c3 (i:=2) rfl) (Or.inl ⟨by rfl,by intro w hSw;(try dsimp only at hSw);(first | (go_simp;done) | (go_simp;with_reducible rfl))⟩) ?_
  try simp only [Act.put,seti,set0,setS]
  refine wpLate_one (i:=2) (o:=⟨some 11,_,_,_,_,_⟩) (by kernel_rfl) rfl (fun K hK=>?_)
  go_simp
  (go_at_call 120;refine (HRN.out _ _ _ _ (X.out.rw (i:=0) rfl)).mono ?_;rintro e u1 ⟨A1,n1,c1,rfl,ht9,hb9⟩;have TG1:=Lib.hid ht9;have X:=Lib.hid (X.out.next hb9);clear hb9 ht9)
  try go_wp2_with fail
  refine hK.out _ _ (Or.inr (fun _=>X.out.c3 (i:=2) rfl)) ?_
  clear hK K
  try simp only [Act.put,seti,set0,setS]
  refine wpLate_one (i:=5) (o:=⟨some 14,_,_,_,_,_⟩) (by kernel_rfl) rfl (fun K hK=>?_)
  go_simp
  (go_at_call 120;refine (HRD.out _ _ _ _ (X.out.rw (i:=1) rfl)).mono ?_;rintro e u2 ⟨A2,n2,c2,rfl,ht9,hb9⟩;have TG1:=Lib.hid (TG1.out.below hb9);have TG2:=Lib.hid ht9;have X:=Lib.hid (X.out.next hb9);clear hb9 ht9)
  try go_wp2_with fail
  refine hK.out _ _ (Or.inr (fun _=>X.out.c3 (i:=2) rfl)) ?_
  clear hK K
  try simp only [Act.put,seti,set0,setS]
  refine tk (i:=6) (oi:=⟨some 5,_,_,_,_,_⟩) (v:=_) rfl (by kernel_rfl) (fun _ _ _ h=>h) (X.out.c3 (i:=2) rfl) (Or.inl ⟨by rfl,by intro w hSw;(try dsimp only at hSw);(first | (go_simp;done) | (go_simp;with_reducible rfl))⟩) ?_
  try simp only [Act.put,seti,set0,setS]
  refine tk (i:=7) (oi:=⟨some 6,_,_,_,_,_⟩) (v:=_) rfl (by kernel_rfl) (fun _ _ _ h=>h) (X.out.c3 (i:=2) rfl) (Or.inl ⟨by rfl,by intro w hSw;(try dsimp only at hSw);(first | (go_simp;done) | (go_simp;with_reducible rfl))⟩) ?_
  try simp only [Act.put,seti,set0,setS]
  refine wpLate_done (by kernel_rfl) ?_ _
  go_wp2_with fail
  go_meet
  exact ⟨_,_,_,_,_,_,rfl,rfl,TG1.out,TG2.out,X.out⟩
 obtain ⟨A5,n5,c5,A6,n6,c6,rfl,rfl,hT5,hT6,hX⟩:=hcut
 have X:=Lib.hid hX
 have TG5:=Lib.hid hT5
 have TG6:=Lib.hid hT6
 clear hX hT5 hT6
 go_upto_region 3 with fail
 refine wp_region_late (S:=fun w'=>(w'.cell? ⟨gF,0,none⟩=some (.bool true)∧w'.cell? ⟨gF,1,none⟩=some (.slice A1 n1 c1)∧w'.cell? ⟨gF,2,none⟩=some (.slice B1 n2 c2))) (L:=[]) (by kernel_rfl) ?_
 have X:=Lib.hid X.out.drew
 have TG5:=Lib.hid TG5.out.drew
 have TG6:=Lib.hid TG6.out.drew
 obtain ⟨V0,hV⟩:=wexi X.out
 rw [←hV] at X TG5 TG6 ⊢
 clear hV
 refine tk (i:=0) (oi:=⟨some 15,_,_,_,_,_⟩) (v:=_) rfl (by kernel_rfl) (fun _ _ _ h=>h) (X.out.c3 (i:=2) rfl) (Or.inl ⟨by rfl,by intro w hSw;(try dsimp only at hSw);(first | (go_simp;done) | (go_simp;with_reducible rfl))⟩) ?_
 try simp only [Act.put,seti,set0,setS]
 refine tk (i:=1) (oi:=⟨some 16,_,_,_,_,_⟩) (v:=_) rfl (by kernel_rfl) (fun _ _ _ h=>h) (X.out.c3 (i:=2) rfl) (Or.inl ⟨by rfl,by intro w hSw;(try dsimp only at hSw);(first | (go_simp;done) | (go_simp;with_reducible rfl))⟩) ?_
 try simp only [Act.put,seti,set0,setS]
 refine tk (i:=2) (oi:=⟨some 17,_,_,_,_,_⟩) (v:=_) rfl (by kernel_rfl) (fun _ _ _ h=>h) (X.out.c3 (i:=2) rfl) (Or.inl ⟨by rfl,by intro w hSw;(try dsimp only at hSw);(first | (go_simp;done) | (go_simp;with_reducible rfl))⟩) ?_
 try simp only [Act.put,seti,set0,setS]
 refine tk (i:=3) (oi:=⟨some 18,_,_,_,_,_⟩) (v:=undef) rfl (by kernel_rfl) (fun _ _ _ h=>h) (X.out.c3 (i:=2) rfl) (Or.inr ⟨by rfl,rfl⟩) ?_
 try simp only [Act.put,seti,set0,setS]
 refine tk (i:=4) (oi:=⟨some 19,_,_,_,_,_⟩) (v:=undef) rfl (by kernel_rfl) (fun _ _ _ h=>h) (X.out.c3 (i:=2) rfl) (Or.inr ⟨by rfl,rfl⟩) ?_
 try simp only [Act.put,seti,set0,setS]
 refine tk (i:=5) (oi:=⟨some 20,_,_,_,_,_⟩) (v:=undef) rfl (by kernel_rfl) (fun _ _ _ h=>h) (X.out.c3 (i:=2) rfl) (Or.inr ⟨by rfl,rfl⟩) ?_
 try simp only [Act.put,seti,set0,setS]
 refine tk (i:=6) (oi:=⟨some 21,_,_,_,_,_⟩) (v:=undef) rfl (by kernel_rfl) (fun _ _ _ h=>h) (X.out.c3 (i:=2) rfl) (Or.inr ⟨by rfl,rfl⟩) ?_
 try simp only [Act.put,seti,set0,setS]
 refine tk (i:=7) (oi:=⟨some 22,_,_,_,_,_⟩) (v:=undef) rfl (by kernel_rfl) (fun _ _ _ h=>h) (X.out.c3 (i:=2) rfl) (Or.inr ⟨by rfl,rfl⟩) ?_
 try simp only [Act.put,seti,set0,setS]
 refine tk (i:=8) (oi:=⟨some 23,_,_,_,_,_⟩) (v:=undef) rfl (by kernel_rfl) (fun _ _ _ h=>h) (X.out.c3 (i:=2) rfl) (Or.inr ⟨by rfl,rfl⟩) ?_
 try simp only [Act.put,seti,set0,setS]
 refine tk (i:=9) (oi:=⟨some 24,_,_,_,_,_⟩) (v:=undef) rfl (by kernel_rfl) (fun _ _ _ h=>h) (X.out.c3 (i:=2) rfl) (Or.inr ⟨by rfl,rfl⟩) ?_
 try simp only [Act.put,seti,set0,setS]
 refine tk (i:=10) (oi:=⟨some 25,_,_,_,_,_⟩) (v:=_) rfl (by kernel_rfl) (fun _ _ _ h=>h) (X.out.c3 (i:=2) rfl) (Or.inl ⟨by rfl,by intro w hSw;(try dsimp only at hSw);(first | (go_simp;done) | (go_simp;with_reducible rfl))⟩) ?_
 try simp only [Act.put,seti,set0,setS]
 refine tk (i:=11) (oi:=⟨some 26,_,_,_,_,_⟩) (v:=_) rfl (by kernel_rfl) (fun _ _ _ h=>h) (X.out.c3 (i:=2) rfl) (Or.inl ⟨by rfl,by intro w hSw;(try dsimp only at hSw);(first | (go_simp;done) | (go_simp;with_reducible rfl))⟩) ?_
 try simp only [Act.put,seti,set0,setS]
 refine tk (i:=12) (oi:=⟨some 27,_,_,_,_,_⟩) (v:=undef) rfl (by kernel_rfl) (fun _ _ _ h=>h) (X.out.c3 (i:=2) rfl) (Or.inr ⟨by rfl,rfl⟩) ?_
 try simp only [Act.put,seti,set0,setS]
 refine tk (i:=13) (oi:=⟨some 28,_,_,_,_,_⟩) (v:=undef) rfl (by kernel_rfl) (fun _ _ _ h=>h) (X.out.c3 (i:=2) rfl) (Or.inr ⟨by rfl,rfl⟩) ?_
 try simp only [Act.put,seti,set0,setS]
 refine tk (i:=14) (oi:=⟨some 29,_,_,_,_,_⟩) (v:=undef) rfl (by kernel_rfl) (fun _ _ _ h=>h) (X.out.c3 (i:=2) rfl) (Or.inr ⟨by rfl,rfl⟩) ?_
 try simp only [Act.put,seti,set0,setS]
 refine tk (i:=15) (oi:=⟨some 30,_,_,_,_,_⟩) (v:=undef) rfl (by kernel_rfl) (fun _ _ _ h=>h) (X.out.c3 (i:=2) rfl) (Or.inr ⟨by rfl,rfl⟩) ?_
 try simp only [Act.put,seti,set0,setS]
 refine tk (i:=16) (oi:=⟨some 31,_,_,_,_,_⟩) (v:=undef) rfl (by kernel_rfl) (fun _ _ _ h=>h) (X.out.c3 (i:=2) rfl) (Or.inr ⟨by rfl,rfl⟩) ?_
 try simp only [Act.put,seti,set0,setS]
 refine tk (i:=17) (oi:=⟨some 32,_,_,_,_,_⟩) (v:=undef) rfl (by kernel_rfl) (fun _ _ _ h=>h) (X.out.c3 (i:=2) rfl) (Or.inr ⟨by rfl,rfl⟩) ?_
 try simp only [Act.put,seti,set0,setS]
 refine tk (i:=18) (oi:=⟨some 33,_,_,_,_,_⟩) (v:=undef) rfl (by kernel_rfl) (fun _ _ _ h=>h) (X.out.c3 (i:=2) rfl) (Or.inr ⟨by rfl,rfl⟩) ?_
 try simp only [Act.put,seti,set0,setS]
 refine tk (i:=19) (oi:=⟨some 34,_,_,_,_,_⟩) (v:=_) rfl (by kernel_rfl) (fun _ _ _ h=>h) (X.out.c3 (i:=2) rfl) (Or.inl ⟨by rfl,by intro w hSw;(try dsimp only at hSw);(first | (go_simp;done) | (go_simp;with_reducible rfl))⟩) ?_
 try simp only [Act.put,seti,set0,setS]
 refine wpLate_done (by kernel_rfl) ?_ _
 obtain ⟨x0,x1,x2,x3⟩:=X.out.c4 (i:=1) rfl
 obtain ⟨y0,y1,y2,y3⟩:=X.out.f4 (i:=1) rfl
 go_wp2
 have X:=Lib.hid (X.out.set4 (i:=1) rfl (.bool false) (.string ⟨#[]⟩) (.bool false) (.string ⟨#[]⟩))
 obtain ⟨p0,p1,p2,p3⟩:=X.out.c4 (i:=1) rfl
 exact bodyPost_ret (v:=.tuple #[.agg #[.bool false,.string ⟨#[]⟩,.bool false,.string ⟨#[]⟩],.bool false]) (by simp [results,Tryz.results68,go_sem,p0,p1,p2,p3]) rfl ⟨rfl,X.out.bel⟩

set_option maxHeartbeats 8000000 in
set_option maxRecDepth 100000 in
theorem rRoot_no1 {p:Rat} {m k:ByteArray} (h:Rq p false m k) (h1:rt p.num.natAbs*rt p.num.natAbs≠p.num.natAbs) (s1:m.size≤9000) (s2:(mag p.den).size≤9000) (w:World) :
  Calls Tryz.prog 68 #[.agg #[.bool false,.string m,.bool false,.string k]] w (RetB w (.tuple #[.agg #[.bool false,.string ⟨#[]⟩,.bool false,.string ⟨#[]⟩],.bool false])):=by
 have hk:k.size≤9000:=by
  by_cases hd:p.den=1
  · rw [h.den1 hd];exact Nat.zero_le _
  · rw [h.den2 hd];exact s2
 have HF:=Lib.hid (fun V=>rof2 h (by omega) (by omega) V)
 have n0:nd p.num.natAbs≤9000:=by unfold nd;rw [←h.mag.2];exact s1
 have n1':nd p.den≤9000:=s2
 have hd0:=p.den_pos
 generalize p.num.natAbs=NN at *
 generalize p.den=DD at *
 have r0:nd (rt NN)≤9000:=Nat.le_trans (nd_mono (rt_self NN)) n0
 have r1:nd (rt DD)≤9000:=Nat.le_trans (nd_mono (rt_self DD)) n1'
 have rp:=rt_pos hd0
 have q0:=nd_mul (rt NN) (rt NN)
 have q1:=nd_mul (rt DD) (rt DD)
 have HRN:=Lib.hid (fun (A:Option Addr) (n c:Nat) (V:World) (ht:Tr V A n c NN)=>rroot A n c NN V (by have:=ht.ln;omega) ht)
 have HRD:=Lib.hid (fun (A:Option Addr) (n c:Nat) (V:World) (ht:Tr V A n c DD)=>rroot A n c DD V (by have:=ht.ln;omega) ht)
 have HTN:=Lib.hid (fun (A:Option Addr) (n c:Nat) (V:World) (ht:Tr V A n c (rt NN))=>rtimes A A n n c c (rt NN) (rt NN) V (by have:=ht.ln;omega) (by have:=ht.ln;omega) ht.dg ht.dg)
 have HCN:=Lib.hid (fun (A B:Option Addr) (n m c d:Nat) (V:World) (ht:Tr V A n c (rt NN*rt NN)) (hu:Tr V B m d NN)=>rcmp_lt A B n m c d V (by have:=ht.ln;omega) (by have:=hu.ln;omega) (Nat.lt_of_le_of_ne (rt_spec NN).1 h1) ht hu)
 clear n0 n1' hd0 r0 r1 rp q0 q1 hk s1 s2 h h1
 generalize rt NN=RN at *
 generalize rt DD=RD at *
 have X:=Lib.hid (((Sb.start w).new #[.bool false,.string m,.bool false,.string k] 25).new #[.bool false,.string ⟨#[]⟩,.bool false,.string ⟨#[]⟩] 25)
 have X:=Lib.hid (X.out.pick [0,1] [(w.heap.size,#[.bool false,.string m,.bool false,.string k],25),(w.heap.size+1,#[.bool false,.string ⟨#[]⟩,.bool false,.string ⟨#[]⟩],25)] [] (by simp) (by decide) (by simp))
 go_enter Tryz.func68,Tryz.ntmps68
 obtain ⟨a0,a1,a2,a3⟩:=X.out.c4 (i:=0) rfl
 go_wp2_with fail
 refine (HF.out _).mono ?_
 rintro e u1 ⟨A1,n1,c1,B1,n2,c2,rfl,ht9,hu9,hb9,hf9,hg9⟩
 have X:=Lib.hid (X.out.row2 hb9 ht9 hu9 hf9 hg9)
 clear hb9 ht9 hu9 hf9 hg9 a0 a1 a2 a3
 go_upto_region 2 with fail
 have X:=Lib.hid (X.out.new #[.bool false,.slice A1 n1 c1,.slice B1 n2 c2] 110)
 obtain ⟨gF,hgF⟩:∃ g,g=u1.heap.size:=⟨_,rfl⟩
 rw [←hgF] at X ⊢
 obtain ⟨W1,hV⟩:=wexi X.out
 rw [←hV] at X ⊢
 clear hV
 clear hgF
 go_cut [5,6] (fun s5 s6 wx=>∃ A5 n5 c5 A6 n6 c6,s5=.slice A5 n5 c5∧s6=.slice A6 n6 c6∧Tr wx A5 n5 c5 RN∧Tr wx A6 n6 c6 RD∧Sb w [(w.heap.size,#[.bool false,.string m,.bool false,.string k],25),(w.heap.size+1,#[.bool false,.string ⟨#[]⟩,.bool false,.string ⟨#[]⟩],25),(gF,#[.bool false,.slice A1 n1 c1,.slice B1 n2 c2],110)] [(A1,n1,c1,NN),(B1,n2,c2,DD)] wx)
 case first =>
  refine wp_region_late (S:=fun w'=>(w'.cell? ⟨gF,0,none⟩=some (.bool false)∧w'.cell? ⟨gF,1,none⟩=some (.slice A1 n1 c1)∧w'.cell? ⟨gF,2,none⟩=some (.slice B1 n2 c2))) (L:=[]) (by kernel_rfl) ?_
  have X:=Lib.hid X.out.drew
  obtain ⟨V0,hV⟩:=wexi X.out
  rw [←hV] at X ⊢
  clear hV
  refine tk (i:=0) (oi:=⟨some 9,_,_,_,_,_⟩) (v:=_) rfl (by kernel_rfl) (fun _ _ _ h=>h) (X.out.c3 (i:=2) rfl) (Or.inl ⟨by rfl,by intro w hSw;(try dsimp only at hSw);(first | (go_simp;done) | (go_simp;with_reducible rfl))⟩) ?_
  try simp only [Act.put,seti,set0,setS]
  refine tk (i:=1) (oi:=⟨some 10,_,_,_,_,_⟩) (v:=_) rfl (by kernel_rfl) (fun _ _ _ h=>h) (X.out.c3 (i:=2) rfl) (Or.inl ⟨by rfl,by intro w hSw;(try dsimp only at hSw);(first | (go_simp;done) | (go_simp;with_reducible rfl))⟩) ?_
  try simp only [Act.put,seti,set0,setS]
  refine tk (i:=3) (oi:=⟨some 12,_,_,_,_,_⟩) (v:=_) rfl (by kernel_rfl) (fun _ _ _ h=>h) (X.out.c3 (i:=2) rfl) (Or.inl ⟨by rfl,by intro w hSw;(try dsimp only at hSw);(first | (go_simp;done) | (go_simp;with_reducible rfl))⟩) ?_
  try simp only [Act.put,seti,set0,setS]
  refine tk (i:=4) (oi:=⟨some 13,_,_,_,_,_⟩) (v:=_) rfl (by kernel_rfl) (fun _ _ _ h=>h) (X.out.c3 (i:=2) rfl) (Or.inl ⟨by rfl,by intro w hSw;(try dsimp only at hSw);(first | (go_simp;done) | (go_simp;with_reducible rfl))⟩) ?_
  try simp only [Act.put,seti,set0,setS]
  refine wpLate_one (i:=2) (o:=⟨some 11,_,_,_,_,_⟩) (by kernel_rfl) rfl (fun K hK=>?_)
  go_simp
  (go_at_call 120;refine (HRN.out _ _ _ _ (X.out.rw (i:=0) rfl)).mono ?_;rintro e u1 ⟨A1,n1,c1,rfl,ht9,hb9⟩;have TG1:=Lib.hid ht9;have X:=Lib.hid (X.out.next hb9);clear hb9 ht9)
  try go_wp2_with fail
  refine hK.out _ _ (Or.inr (fun _=>X.out.c3 (i:=2) rfl)) ?_
  clear hK K
  try simp only [Act.put,seti,set0,setS]
  refine wpLate_one (i:=5) (o:=⟨some 14,_,_,_,_,_⟩) (by kernel_rfl) rfl (fun K hK=>?_)
  go_simp
  (go_at_call 120;refine (HRD.out _ _ _ _ (X.out.rw (i:=1) rfl)).mono ?_;rintro e u2 ⟨A2,n2,c2,rfl,ht9,hb9⟩;have TG1:=Lib.hid (TG1.out.below hb9);have TG2:=Lib.hid ht9;have X:=Lib.hid (X.out.next hb9);clear hb9 ht9)
  try go_wp2_with fail
  refine hK.out _ _ (Or.inr (fun _=>X.out.c3 (i:=2) rfl)) ?_
  clear hK K
  try simp only [Act.put,seti,set0,setS]
  refine tk (i:=6) (oi:=⟨some 5,_,_,_,_,_⟩) (v:=_) rfl (by kernel_rfl) (fun _ _ _ h=>h) (X.out.c3 (i:=2) rfl) (Or.inl ⟨by rfl,by intro w hSw;(try dsimp only at hSw);(first | (go_simp;done) | (go_simp;with_reducible rfl))⟩) ?_
  try simp only [Act.put,seti,set0,setS]
  refine tk (i:=7) (oi:=⟨some 6,_,_,_,_,_⟩) (v:=_) rfl (by kernel_rfl) (fun _ _ _ h=>h) (X.out.c3 (i:=2) rfl) (Or.inl ⟨by rfl,by intro w hSw;(try dsimp only at hSw);(first | (go_simp;done) | (go_simp;with_reducible rfl))⟩) ?_
  try simp only [Act.put,seti,set0,setS]
  refine wpLate_done (by kernel_rfl) ?_ _
  go_wp2_with fail
  go_meet
  exact ⟨_,_,_,_,_,_,rfl,rfl,TG1.out,TG2.out,X.out⟩
 obtain ⟨A5,n5,c5,A6,n6,c6,rfl,rfl,hT5,hT6,hX⟩:=hcut
 have X:=Lib.hid hX
 have TG5:=Lib.hid hT5
 have TG6:=Lib.hid hT6
 clear hX hT5 hT6
 go_upto_region 3 with fail
 refine wp_region_late (S:=fun w'=>(w'.cell? ⟨gF,0,none⟩=some (.bool false)∧w'.cell? ⟨gF,1,none⟩=some (.slice A1 n1 c1)∧w'.cell? ⟨gF,2,none⟩=some (.slice B1 n2 c2))) (L:=[]) (by kernel_rfl) ?_
 have X:=Lib.hid X.out.drew
 have TG5:=Lib.hid TG5.out.drew
 have TG6:=Lib.hid TG6.out.drew
 obtain ⟨V0,hV⟩:=wexi X.out
 rw [←hV] at X TG5 TG6 ⊢
 clear hV
 refine tk (i:=0) (oi:=⟨some 15,_,_,_,_,_⟩) (v:=_) rfl (by kernel_rfl) (fun _ _ _ h=>h) (X.out.c3 (i:=2) rfl) (Or.inl ⟨by rfl,by intro w hSw;(try dsimp only at hSw);(first | (go_simp;done) | (go_simp;with_reducible rfl))⟩) ?_
 try simp only [Act.put,seti,set0,setS]
 refine tk (i:=1) (oi:=⟨some 16,_,_,_,_,_⟩) (v:=_) rfl (by kernel_rfl) (fun _ _ _ h=>h) (X.out.c3 (i:=2) rfl) (Or.inl ⟨by rfl,by intro w hSw;(try dsimp only at hSw);(first | (go_simp;done) | (go_simp;with_reducible rfl))⟩) ?_
 try simp only [Act.put,seti,set0,setS]
 refine tk (i:=2) (oi:=⟨some 17,_,_,_,_,_⟩) (v:=_) rfl (by kernel_rfl) (fun _ _ _ h=>h) (X.out.c3 (i:=2) rfl) (Or.inl ⟨by rfl,by intro w hSw;(try dsimp only at hSw);(first | (go_simp;done) | (go_simp;with_reducible rfl))⟩) ?_
 try simp only [Act.put,seti,set0,setS]
 refine tk (i:=3) (oi:=⟨some 18,_,_,_,_,_⟩) (v:=_) rfl (by kernel_rfl) (fun _ _ _ h=>h) (X.out.c3 (i:=2) rfl) (Or.inl ⟨by rfl,by intro w hSw;(try dsimp only at hSw);(first | (go_simp;done) | (go_simp;with_reducible rfl))⟩) ?_
 try simp only [Act.put,seti,set0,setS]
 refine tk (i:=4) (oi:=⟨some 19,_,_,_,_,_⟩) (v:=_) rfl (by kernel_rfl) (fun _ _ _ h=>h) (X.out.c3 (i:=2) rfl) (Or.inl ⟨by rfl,by intro w hSw;(try dsimp only at hSw);(first | (go_simp;done) | (go_simp;with_reducible rfl))⟩) ?_
 try simp only [Act.put,seti,set0,setS]
 refine tk (i:=6) (oi:=⟨some 21,_,_,_,_,_⟩) (v:=_) rfl (by kernel_rfl) (fun _ _ _ h=>h) (X.out.c3 (i:=2) rfl) (Or.inl ⟨by rfl,by intro w hSw;(try dsimp only at hSw);(first | (go_simp;done) | (go_simp;with_reducible rfl))⟩) ?_
 try simp only [Act.put,seti,set0,setS]
 refine tk (i:=7) (oi:=⟨some 22,_,_,_,_,_⟩) (v:=_) rfl (by kernel_rfl) (fun _ _ _ h=>h) (X.out.c3 (i:=2) rfl) (Or.inl ⟨by rfl,by intro w hSw;(try dsimp only at hSw);(first | (go_simp;done) | (go_simp;with_reducible rfl))⟩) ?_
 try simp only [Act.put,seti,set0,setS]
 refine wpLate_one (i:=5) (o:=⟨some 20,_,_,_,_,_⟩) (by kernel_rfl) rfl (fun K hK=>?_)
 go_simp
 (go_at_call 122;refine (HTN.out _ _ _ _ TG5.out).mono ?_;rintro e u1 ⟨A1,n1,c1,rfl,ht9,hb9,hf9⟩;have TG5:=Lib.hid (TG5.out.below hb9);have TG6:=Lib.hid (TG6.out.below hb9);have X:=Lib.hid (X.out.row hb9 ht9 hf9);clear hb9 ht9 hf9)
 try go_wp2_with fail
 refine hK.out _ _ (Or.inr (fun _=>X.out.c3 (i:=2) rfl)) ?_
 clear hK K
 try simp only [Act.put,seti,set0,setS]
 refine wpLate_one (i:=8) (o:=⟨some 23,_,_,_,_,_⟩) (by kernel_rfl) rfl (fun K hK=>?_)
 go_simp
 (go_at_call 121;refine (HCN.out _ _ _ _ _ _ _ (X.out.rw (i:=2) rfl) (X.out.rw (i:=0) rfl)).mono ?_;rintro e u2 ⟨rfl,hb9⟩;have TG5:=Lib.hid (TG5.out.below hb9);have TG6:=Lib.hid (TG6.out.below hb9);have X:=Lib.hid (X.out.next hb9);clear hb9)
 try go_wp2_with fail
 refine hK.out _ _ (Or.inr (fun _=>X.out.c3 (i:=2) rfl)) ?_
 clear hK K
 try simp only [Act.put,seti,set0,setS]
 refine tk (i:=9) (oi:=⟨some 24,_,_,_,_,_⟩) (v:=_) rfl (by kernel_rfl) (fun _ _ _ h=>h) (X.out.c3 (i:=2) rfl) (Or.inl ⟨by rfl,by intro w hSw;(try dsimp only at hSw);(first | (go_simp;done) | (go_simp;with_reducible rfl))⟩) ?_
 try simp only [Act.put,seti,set0,setS]
 refine tk (i:=10) (oi:=⟨some 25,_,_,_,_,_⟩) (v:=_) rfl (by kernel_rfl) (fun _ _ _ h=>h) (X.out.c3 (i:=2) rfl) (Or.inl ⟨by rfl,by intro w hSw;(try dsimp only at hSw);(first | (go_simp;done) | (go_simp;with_reducible rfl))⟩) ?_
 try simp only [Act.put,seti,set0,setS]
 refine tk (i:=11) (oi:=⟨some 26,_,_,_,_,_⟩) (v:=_) rfl (by kernel_rfl) (fun _ _ _ h=>h) (X.out.c3 (i:=2) rfl) (Or.inl ⟨by rfl,by intro w hSw;(try dsimp only at hSw);(first | (go_simp;done) | (go_simp;with_reducible rfl))⟩) ?_
 try simp only [Act.put,seti,set0,setS]
 refine tk (i:=12) (oi:=⟨some 27,_,_,_,_,_⟩) (v:=undef) rfl (by kernel_rfl) (fun _ _ _ h=>h) (X.out.c3 (i:=2) rfl) (Or.inr ⟨by rfl,rfl⟩) ?_
 try simp only [Act.put,seti,set0,setS]
 refine tk (i:=13) (oi:=⟨some 28,_,_,_,_,_⟩) (v:=undef) rfl (by kernel_rfl) (fun _ _ _ h=>h) (X.out.c3 (i:=2) rfl) (Or.inr ⟨by rfl,rfl⟩) ?_
 try simp only [Act.put,seti,set0,setS]
 refine tk (i:=14) (oi:=⟨some 29,_,_,_,_,_⟩) (v:=undef) rfl (by kernel_rfl) (fun _ _ _ h=>h) (X.out.c3 (i:=2) rfl) (Or.inr ⟨by rfl,rfl⟩) ?_
 try simp only [Act.put,seti,set0,setS]
 refine tk (i:=15) (oi:=⟨some 30,_,_,_,_,_⟩) (v:=undef) rfl (by kernel_rfl) (fun _ _ _ h=>h) (X.out.c3 (i:=2) rfl) (Or.inr ⟨by rfl,rfl⟩) ?_
 try simp only [Act.put,seti,set0,setS]
 refine tk (i:=16) (oi:=⟨some 31,_,_,_,_,_⟩) (v:=undef) rfl (by kernel_rfl) (fun _ _ _ h=>h) (X.out.c3 (i:=2) rfl) (Or.inr ⟨by rfl,rfl⟩) ?_
 try simp only [Act.put,seti,set0,setS]
 refine tk (i:=17) (oi:=⟨some 32,_,_,_,_,_⟩) (v:=undef) rfl (by kernel_rfl) (fun _ _ _ h=>h) (X.out.c3 (i:=2) rfl) (Or.inr ⟨by rfl,rfl⟩) ?_
 try simp only [Act.put,seti,set0,setS]
 refine tk (i:=18) (oi:=⟨some 33,_,_,_,_,_⟩) (v:=undef) rfl (by kernel_rfl) (fun _ _ _ h=>h) (X.out.c3 (i:=2) rfl) (Or.inr ⟨by rfl,rfl⟩) ?_
 try simp only [Act.put,seti,set0,setS]
 refine tk (i:=19) (oi:=⟨some 34,_,_,_,_,_⟩) (v:=_) rfl (by kernel_rfl) (fun _ _ _ h=>h) (X.out.c3 (i:=2) rfl) (Or.inl ⟨by rfl,by intro w hSw;(try dsimp only at hSw);(first | (go_simp;done) | (go_simp;with_reducible rfl))⟩) ?_
 try simp only [Act.put,seti,set0,setS]
 refine wpLate_done (by kernel_rfl) ?_ _
 obtain ⟨x0,x1,x2,x3⟩:=X.out.c4 (i:=1) rfl
 obtain ⟨y0,y1,y2,y3⟩:=X.out.f4 (i:=1) rfl
 go_wp2
 have X:=Lib.hid (X.out.set4 (i:=1) rfl (.bool false) (.string ⟨#[]⟩) (.bool false) (.string ⟨#[]⟩))
 obtain ⟨p0,p1,p2,p3⟩:=X.out.c4 (i:=1) rfl
 exact bodyPost_ret (v:=.tuple #[.agg #[.bool false,.string ⟨#[]⟩,.bool false,.string ⟨#[]⟩],.bool false]) (by simp [results,Tryz.results68,go_sem,p0,p1,p2,p3]) rfl ⟨rfl,X.out.bel⟩

set_option maxHeartbeats 8000000 in
set_option maxRecDepth 100000 in
theorem rRoot_no2 {p:Rat} {m k:ByteArray} (h:Rq p false m k) (h1:rt p.num.natAbs*rt p.num.natAbs=p.num.natAbs) (h2:rt p.den*rt p.den≠p.den) (s1:m.size≤9000) (s2:(mag p.den).size≤9000) (w:World) :
  Calls Tryz.prog 68 #[.agg #[.bool false,.string m,.bool false,.string k]] w (RetB w (.tuple #[.agg #[.bool false,.string ⟨#[]⟩,.bool false,.string ⟨#[]⟩],.bool false])):=by
 have hk:k.size≤9000:=by
  by_cases hd:p.den=1
  · rw [h.den1 hd];exact Nat.zero_le _
  · rw [h.den2 hd];exact s2
 have HF:=Lib.hid (fun V=>rof2 h (by omega) (by omega) V)
 have n0:nd p.num.natAbs≤9000:=by unfold nd;rw [←h.mag.2];exact s1
 have n1':nd p.den≤9000:=s2
 have hd0:=p.den_pos
 generalize p.num.natAbs=NN at *
 generalize p.den=DD at *
 have r0:nd (rt NN)≤9000:=Nat.le_trans (nd_mono (rt_self NN)) n0
 have r1:nd (rt DD)≤9000:=Nat.le_trans (nd_mono (rt_self DD)) n1'
 have rp:=rt_pos hd0
 have q0:=nd_mul (rt NN) (rt NN)
 have q1:=nd_mul (rt DD) (rt DD)
 have HRN:=Lib.hid (fun (A:Option Addr) (n c:Nat) (V:World) (ht:Tr V A n c NN)=>rroot A n c NN V (by have:=ht.ln;omega) ht)
 have HRD:=Lib.hid (fun (A:Option Addr) (n c:Nat) (V:World) (ht:Tr V A n c DD)=>rroot A n c DD V (by have:=ht.ln;omega) ht)
 have HTN:=Lib.hid (fun (A:Option Addr) (n c:Nat) (V:World) (ht:Tr V A n c (rt NN))=>rtimes A A n n c c (rt NN) (rt NN) V (by have:=ht.ln;omega) (by have:=ht.ln;omega) ht.dg ht.dg)
 have HCN:=Lib.hid (fun (A B:Option Addr) (n m c d:Nat) (V:World) (ht:Tr V A n c (rt NN*rt NN)) (hu:Tr V B m d NN)=>rcmp_eq A B n m c d V (by have:=ht.ln;omega) (by have:=hu.ln;omega) h1 ht hu)
 have HTD:=Lib.hid (fun (A:Option Addr) (n c:Nat) (V:World) (ht:Tr V A n c (rt DD))=>rtimes A A n n c c (rt DD) (rt DD) V (by have:=ht.ln;omega) (by have:=ht.ln;omega) ht.dg ht.dg)
 have HCD:=Lib.hid (fun (A B:Option Addr) (n m c d:Nat) (V:World) (ht:Tr V A n c (rt DD*rt DD)) (hu:Tr V B m d DD)=>rcmp_lt A B n m c d V (by have:=ht.ln;omega) (by have:=hu.ln;omega) (Nat.lt_of_le_of_ne (rt_spec DD).1 h2) ht hu)
 clear n0 n1' hd0 r0 r1 rp q0 q1 hk s1 s2 h h1 h2
 generalize rt NN=RN at *
 generalize rt DD=RD at *
 have X:=Lib.hid (((Sb.start w).new #[.bool false,.string m,.bool false,.string k] 25).new #[.bool false,.string ⟨#[]⟩,.bool false,.string ⟨#[]⟩] 25)
 have X:=Lib.hid (X.out.pick [0,1] [(w.heap.size,#[.bool false,.string m,.bool false,.string k],25),(w.heap.size+1,#[.bool false,.string ⟨#[]⟩,.bool false,.string ⟨#[]⟩],25)] [] (by simp) (by decide) (by simp))
 go_enter Tryz.func68,Tryz.ntmps68
 obtain ⟨a0,a1,a2,a3⟩:=X.out.c4 (i:=0) rfl
 go_wp2_with fail
 refine (HF.out _).mono ?_
 rintro e u1 ⟨A1,n1,c1,B1,n2,c2,rfl,ht9,hu9,hb9,hf9,hg9⟩
 have X:=Lib.hid (X.out.row2 hb9 ht9 hu9 hf9 hg9)
 clear hb9 ht9 hu9 hf9 hg9 a0 a1 a2 a3
 go_upto_region 2 with fail
 have X:=Lib.hid (X.out.new #[.bool false,.slice A1 n1 c1,.slice B1 n2 c2] 110)
 obtain ⟨gF,hgF⟩:∃ g,g=u1.heap.size:=⟨_,rfl⟩
 rw [←hgF] at X ⊢
 obtain ⟨W1,hV⟩:=wexi X.out
 rw [←hV] at X ⊢
 clear hV
 clear hgF
 go_cut [5,6] (fun s5 s6 wx=>∃ A5 n5 c5 A6 n6 c6,s5=.slice A5 n5 c5∧s6=.slice A6 n6 c6∧Tr wx A5 n5 c5 RN∧Tr wx A6 n6 c6 RD∧Sb w [(w.heap.size,#[.bool false,.string m,.bool false,.string k],25),(w.heap.size+1,#[.bool false,.string ⟨#[]⟩,.bool false,.string ⟨#[]⟩],25),(gF,#[.bool false,.slice A1 n1 c1,.slice B1 n2 c2],110)] [(A1,n1,c1,NN),(B1,n2,c2,DD)] wx)
 case first =>
  refine wp_region_late (S:=fun w'=>(w'.cell? ⟨gF,0,none⟩=some (.bool false)∧w'.cell? ⟨gF,1,none⟩=some (.slice A1 n1 c1)∧w'.cell? ⟨gF,2,none⟩=some (.slice B1 n2 c2))) (L:=[]) (by kernel_rfl) ?_
  have X:=Lib.hid X.out.drew
  obtain ⟨V0,hV⟩:=wexi X.out
  rw [←hV] at X ⊢
  clear hV
  refine tk (i:=0) (oi:=⟨some 9,_,_,_,_,_⟩) (v:=_) rfl (by kernel_rfl) (fun _ _ _ h=>h) (X.out.c3 (i:=2) rfl) (Or.inl ⟨by rfl,by intro w hSw;(try dsimp only at hSw);(first | (go_simp;done) | (go_simp;with_reducible rfl))⟩) ?_
  try simp only [Act.put,seti,set0,setS]
  refine tk (i:=1) (oi:=⟨some 10,_,_,_,_,_⟩) (v:=_) rfl (by kernel_rfl) (fun _ _ _ h=>h) (X.out.c3 (i:=2) rfl) (Or.inl ⟨by rfl,by intro w hSw;(try dsimp only at hSw);(first | (go_simp;done) | (go_simp;with_reducible rfl))⟩) ?_
  try simp only [Act.put,seti,set0,setS]
  refine tk (i:=3) (oi:=⟨some 12,_,_,_,_,_⟩) (v:=_) rfl (by kernel_rfl) (fun _ _ _ h=>h) (X.out.c3 (i:=2) rfl) (Or.inl ⟨by rfl,by intro w hSw;(try dsimp only at hSw);(first | (go_simp;done) | (go_simp;with_reducible rfl))⟩) ?_
  try simp only [Act.put,seti,set0,setS]
  refine tk (i:=4) (oi:=⟨some 13,_,_,_,_,_⟩) (v:=_) rfl (by kernel_rfl) (fun _ _ _ h=>h) (X.out.c3 (i:=2) rfl) (Or.inl ⟨by rfl,by intro w hSw;(try dsimp only at hSw);(first | (go_simp;done) | (go_simp;with_reducible rfl))⟩) ?_
  try simp only [Act.put,seti,set0,setS]
  refine wpLate_one (i:=2) (o:=⟨some 11,_,_,_,_,_⟩) (by kernel_rfl) rfl (fun K hK=>?_)
  go_simp
  (go_at_call 120;refine (HRN.out _ _ _ _ (X.out.rw (i:=0) rfl)).mono ?_;rintro e u1 ⟨A1,n1,c1,rfl,ht9,hb9⟩;have TG1:=Lib.hid ht9;have X:=Lib.hid (X.out.next hb9);clear hb9 ht9)
  try go_wp2_with fail
  refine hK.out _ _ (Or.inr (fun _=>X.out.c3 (i:=2) rfl)) ?_
  clear hK K
  try simp only [Act.put,seti,set0,setS]
  refine wpLate_one (i:=5) (o:=⟨some 14,_,_,_,_,_⟩) (by kernel_rfl) rfl (fun K hK=>?_)
  go_simp
  (go_at_call 120;refine (HRD.out _ _ _ _ (X.out.rw (i:=1) rfl)).mono ?_;rintro e u2 ⟨A2,n2,c2,rfl,ht9,hb9⟩;have TG1:=Lib.hid (TG1.out.below hb9);have TG2:=Lib.hid ht9;have X:=Lib.hid (X.out.next hb9);clear hb9 ht9)
  try go_wp2_with fail
  refine hK.out _ _ (Or.inr (fun _=>X.out.c3 (i:=2) rfl)) ?_
  clear hK K
  try simp only [Act.put,seti,set0,setS]
  refine tk (i:=6) (oi:=⟨some 5,_,_,_,_,_⟩) (v:=_) rfl (by kernel_rfl) (fun _ _ _ h=>h) (X.out.c3 (i:=2) rfl) (Or.inl ⟨by rfl,by intro w hSw;(try dsimp only at hSw);(first | (go_simp;done) | (go_simp;with_reducible rfl))⟩) ?_
  try simp only [Act.put,seti,set0,setS]
  refine tk (i:=7) (oi:=⟨some 6,_,_,_,_,_⟩) (v:=_) rfl (by kernel_rfl) (fun _ _ _ h=>h) (X.out.c3 (i:=2) rfl) (Or.inl ⟨by rfl,by intro w hSw;(try dsimp only at hSw);(first | (go_simp;done) | (go_simp;with_reducible rfl))⟩) ?_
  try simp only [Act.put,seti,set0,setS]
  refine wpLate_done (by kernel_rfl) ?_ _
  go_wp2_with fail
  go_meet
  exact ⟨_,_,_,_,_,_,rfl,rfl,TG1.out,TG2.out,X.out⟩
 obtain ⟨A5,n5,c5,A6,n6,c6,rfl,rfl,hT5,hT6,hX⟩:=hcut
 have X:=Lib.hid hX
 have TG5:=Lib.hid hT5
 have TG6:=Lib.hid hT6
 clear hX hT5 hT6
 go_upto_region 3 with fail
 refine wp_region_late (S:=fun w'=>(w'.cell? ⟨gF,0,none⟩=some (.bool false)∧w'.cell? ⟨gF,1,none⟩=some (.slice A1 n1 c1)∧w'.cell? ⟨gF,2,none⟩=some (.slice B1 n2 c2))) (L:=[]) (by kernel_rfl) ?_
 have X:=Lib.hid X.out.drew
 have TG5:=Lib.hid TG5.out.drew
 have TG6:=Lib.hid TG6.out.drew
 obtain ⟨V0,hV⟩:=wexi X.out
 rw [←hV] at X TG5 TG6 ⊢
 clear hV
 refine tk (i:=0) (oi:=⟨some 15,_,_,_,_,_⟩) (v:=_) rfl (by kernel_rfl) (fun _ _ _ h=>h) (X.out.c3 (i:=2) rfl) (Or.inl ⟨by rfl,by intro w hSw;(try dsimp only at hSw);(first | (go_simp;done) | (go_simp;with_reducible rfl))⟩) ?_
 try simp only [Act.put,seti,set0,setS]
 refine tk (i:=1) (oi:=⟨some 16,_,_,_,_,_⟩) (v:=_) rfl (by kernel_rfl) (fun _ _ _ h=>h) (X.out.c3 (i:=2) rfl) (Or.inl ⟨by rfl,by intro w hSw;(try dsimp only at hSw);(first | (go_simp;done) | (go_simp;with_reducible rfl))⟩) ?_
 try simp only [Act.put,seti,set0,setS]
 refine tk (i:=2) (oi:=⟨some 17,_,_,_,_,_⟩) (v:=_) rfl (by kernel_rfl) (fun _ _ _ h=>h) (X.out.c3 (i:=2) rfl) (Or.inl ⟨by rfl,by intro w hSw;(try dsimp only at hSw);(first | (go_simp;done) | (go_simp;with_reducible rfl))⟩) ?_
 try simp only [Act.put,seti,set0,setS]
 refine tk (i:=3) (oi:=⟨some 18,_,_,_,_,_⟩) (v:=_) rfl (by kernel_rfl) (fun _ _ _ h=>h) (X.out.c3 (i:=2) rfl) (Or.inl ⟨by rfl,by intro w hSw;(try dsimp only at hSw);(first | (go_simp;done) | (go_simp;with_reducible rfl))⟩) ?_
 try simp only [Act.put,seti,set0,setS]
 refine tk (i:=4) (oi:=⟨some 19,_,_,_,_,_⟩) (v:=_) rfl (by kernel_rfl) (fun _ _ _ h=>h) (X.out.c3 (i:=2) rfl) (Or.inl ⟨by rfl,by intro w hSw;(try dsimp only at hSw);(first | (go_simp;done) | (go_simp;with_reducible rfl))⟩) ?_
 try simp only [Act.put,seti,set0,setS]
 refine tk (i:=6) (oi:=⟨some 21,_,_,_,_,_⟩) (v:=_) rfl (by kernel_rfl) (fun _ _ _ h=>h) (X.out.c3 (i:=2) rfl) (Or.inl ⟨by rfl,by intro w hSw;(try dsimp only at hSw);(first | (go_simp;done) | (go_simp;with_reducible rfl))⟩) ?_
 try simp only [Act.put,seti,set0,setS]
 refine tk (i:=7) (oi:=⟨some 22,_,_,_,_,_⟩) (v:=_) rfl (by kernel_rfl) (fun _ _ _ h=>h) (X.out.c3 (i:=2) rfl) (Or.inl ⟨by rfl,by intro w hSw;(try dsimp only at hSw);(first | (go_simp;done) | (go_simp;with_reducible rfl))⟩) ?_
 try simp only [Act.put,seti,set0,setS]
 refine wpLate_one (i:=5) (o:=⟨some 20,_,_,_,_,_⟩) (by kernel_rfl) rfl (fun K hK=>?_)
 go_simp
 (go_at_call 122;refine (HTN.out _ _ _ _ TG5.out).mono ?_;rintro e u1 ⟨A1,n1,c1,rfl,ht9,hb9,hf9⟩;have TG5:=Lib.hid (TG5.out.below hb9);have TG6:=Lib.hid (TG6.out.below hb9);have X:=Lib.hid (X.out.row hb9 ht9 hf9);clear hb9 ht9 hf9)
 try go_wp2_with fail
 refine hK.out _ _ (Or.inr (fun _=>X.out.c3 (i:=2) rfl)) ?_
 clear hK K
 try simp only [Act.put,seti,set0,setS]
 refine wpLate_one (i:=8) (o:=⟨some 23,_,_,_,_,_⟩) (by kernel_rfl) rfl (fun K hK=>?_)
 go_simp
 (go_at_call 121;refine (HCN.out _ _ _ _ _ _ _ (X.out.rw (i:=2) rfl) (X.out.rw (i:=0) rfl)).mono ?_;rintro e u2 ⟨rfl,hb9⟩;have TG5:=Lib.hid (TG5.out.below hb9);have TG6:=Lib.hid (TG6.out.below hb9);have X:=Lib.hid (X.out.next hb9);clear hb9)
 try go_wp2_with fail
 refine hK.out _ _ (Or.inr (fun _=>X.out.c3 (i:=2) rfl)) ?_
 clear hK K
 try simp only [Act.put,seti,set0,setS]
 refine tk (i:=9) (oi:=⟨some 24,_,_,_,_,_⟩) (v:=_) rfl (by kernel_rfl) (fun _ _ _ h=>h) (X.out.c3 (i:=2) rfl) (Or.inl ⟨by rfl,by intro w hSw;(try dsimp only at hSw);(first | (go_simp;done) | (go_simp;with_reducible rfl))⟩) ?_
 try simp only [Act.put,seti,set0,setS]
 refine tk (i:=10) (oi:=⟨some 25,_,_,_,_,_⟩) (v:=_) rfl (by kernel_rfl) (fun _ _ _ h=>h) (X.out.c3 (i:=2) rfl) (Or.inl ⟨by rfl,by intro w hSw;(try dsimp only at hSw);(first | (go_simp;done) | (go_simp;with_reducible rfl))⟩) ?_
 try simp only [Act.put,seti,set0,setS]
 refine tk (i:=11) (oi:=⟨some 26,_,_,_,_,_⟩) (v:=_) rfl (by kernel_rfl) (fun _ _ _ h=>h) (X.out.c3 (i:=2) rfl) (Or.inl ⟨by rfl,by intro w hSw;(try dsimp only at hSw);(first | (go_simp;done) | (go_simp;with_reducible rfl))⟩) ?_
 try simp only [Act.put,seti,set0,setS]
 refine tk (i:=12) (oi:=⟨some 27,_,_,_,_,_⟩) (v:=_) rfl (by kernel_rfl) (fun _ _ _ h=>h) (X.out.c3 (i:=2) rfl) (Or.inl ⟨by rfl,by intro w hSw;(try dsimp only at hSw);(first | (go_simp;done) | (go_simp;with_reducible rfl))⟩) ?_
 try simp only [Act.put,seti,set0,setS]
 refine tk (i:=13) (oi:=⟨some 28,_,_,_,_,_⟩) (v:=_) rfl (by kernel_rfl) (fun _ _ _ h=>h) (X.out.c3 (i:=2) rfl) (Or.inl ⟨by rfl,by intro w hSw;(try dsimp only at hSw);(first | (go_simp;done) | (go_simp;with_reducible rfl))⟩) ?_
 try simp only [Act.put,seti,set0,setS]
 refine tk (i:=15) (oi:=⟨some 30,_,_,_,_,_⟩) (v:=_) rfl (by kernel_rfl) (fun _ _ _ h=>h) (X.out.c3 (i:=2) rfl) (Or.inl ⟨by rfl,by intro w hSw;(try dsimp only at hSw);(first | (go_simp;done) | (go_simp;with_reducible rfl))⟩) ?_
 try simp only [Act.put,seti,set0,setS]
 refine tk (i:=16) (oi:=⟨some 31,_,_,_,_,_⟩) (v:=_) rfl (by kernel_rfl) (fun _ _ _ h=>h) (X.out.c3 (i:=2) rfl) (Or.inl ⟨by rfl,by intro w hSw;(try dsimp only at hSw);(first | (go_simp;done) | (go_simp;with_reducible rfl))⟩) ?_
 try simp only [Act.put,seti,set0,setS]
 refine wpLate_one (i:=14) (o:=⟨some 29,_,_,_,_,_⟩) (by kernel_rfl) rfl (fun K hK=>?_)
 go_simp
 (go_at_call 122;refine (HTD.out _ _ _ _ TG6.out).mono ?_;rintro e u3 ⟨A3,n3,c3,rfl,ht9,hb9,hf9⟩;have TG5:=Lib.hid (TG5.out.below hb9);have TG6:=Lib.hid (TG6.out.below hb9);have X:=Lib.hid (X.out.row hb9 ht9 hf9);clear hb9 ht9 hf9)
 try go_wp2_with fail
 refine hK.out _ _ (Or.inr (fun _=>X.out.c3 (i:=2) rfl)) ?_
 clear hK K
 try simp only [Act.put,seti,set0,setS]
 refine wpLate_one (i:=17) (o:=⟨some 32,_,_,_,_,_⟩) (by kernel_rfl) rfl (fun K hK=>?_)
 go_simp
 (go_at_call 121;refine (HCD.out _ _ _ _ _ _ _ (X.out.rw (i:=3) rfl) (X.out.rw (i:=1) rfl)).mono ?_;rintro e u4 ⟨rfl,hb9⟩;have TG5:=Lib.hid (TG5.out.below hb9);have TG6:=Lib.hid (TG6.out.below hb9);have X:=Lib.hid (X.out.next hb9);clear hb9)
 try go_wp2_with fail
 refine hK.out _ _ (Or.inr (fun _=>X.out.c3 (i:=2) rfl)) ?_
 clear hK K
 try simp only [Act.put,seti,set0,setS]
 refine tk (i:=18) (oi:=⟨some 33,_,_,_,_,_⟩) (v:=_) rfl (by kernel_rfl) (fun _ _ _ h=>h) (X.out.c3 (i:=2) rfl) (Or.inl ⟨by rfl,by intro w hSw;(try dsimp only at hSw);(first | (go_simp;done) | (go_simp;with_reducible rfl))⟩) ?_
 try simp only [Act.put,seti,set0,setS]
 refine tk (i:=19) (oi:=⟨some 34,_,_,_,_,_⟩) (v:=_) rfl (by kernel_rfl) (fun _ _ _ h=>h) (X.out.c3 (i:=2) rfl) (Or.inl ⟨by rfl,by intro w hSw;(try dsimp only at hSw);(first | (go_simp;done) | (go_simp;with_reducible rfl))⟩) ?_
 try simp only [Act.put,seti,set0,setS]
 refine wpLate_done (by kernel_rfl) ?_ _
 obtain ⟨x0,x1,x2,x3⟩:=X.out.c4 (i:=1) rfl
 obtain ⟨y0,y1,y2,y3⟩:=X.out.f4 (i:=1) rfl
 go_wp2
 have X:=Lib.hid (X.out.set4 (i:=1) rfl (.bool false) (.string ⟨#[]⟩) (.bool false) (.string ⟨#[]⟩))
 obtain ⟨p0,p1,p2,p3⟩:=X.out.c4 (i:=1) rfl
 exact bodyPost_ret (v:=.tuple #[.agg #[.bool false,.string ⟨#[]⟩,.bool false,.string ⟨#[]⟩],.bool false]) (by simp [results,Tryz.results68,go_sem,p0,p1,p2,p3]) rfl ⟨rfl,X.out.bel⟩

set_option maxHeartbeats 8000000 in
set_option maxRecDepth 100000 in
theorem rRoot_yes {p:Rat} {m k:ByteArray} (h:Rq p false m k) (h1:rt p.num.natAbs*rt p.num.natAbs=p.num.natAbs) (h2:rt p.den*rt p.den=p.den) {mR kR:ByteArray} (hr:Rq (mkRat (sgn false (rt p.num.natAbs)) (rt p.den)) false mR kR) (s1:m.size≤9000) (s2:(mag p.den).size≤9000) (w:World) :
  Calls Tryz.prog 68 #[.agg #[.bool false,.string m,.bool false,.string k]] w (RetB w (.tuple #[.agg #[.bool false,.string mR,.bool false,.string kR],.bool true])):=by
 have hk:k.size≤9000:=by
  by_cases hd:p.den=1
  · rw [h.den1 hd];exact Nat.zero_le _
  · rw [h.den2 hd];exact s2
 have HF:=Lib.hid (fun V=>rof2 h (by omega) (by omega) V)
 have n0:nd p.num.natAbs≤9000:=by unfold nd;rw [←h.mag.2];exact s1
 have n1':nd p.den≤9000:=s2
 have hd0:=p.den_pos
 generalize p.num.natAbs=NN at *
 generalize p.den=DD at *
 have r0:nd (rt NN)≤9000:=Nat.le_trans (nd_mono (rt_self NN)) n0
 have r1:nd (rt DD)≤9000:=Nat.le_trans (nd_mono (rt_self DD)) n1'
 have rp:=rt_pos hd0
 have q0:=nd_mul (rt NN) (rt NN)
 have q1:=nd_mul (rt DD) (rt DD)
 have HRN:=Lib.hid (fun (A:Option Addr) (n c:Nat) (V:World) (ht:Tr V A n c NN)=>rroot A n c NN V (by have:=ht.ln;omega) ht)
 have HRD:=Lib.hid (fun (A:Option Addr) (n c:Nat) (V:World) (ht:Tr V A n c DD)=>rroot A n c DD V (by have:=ht.ln;omega) ht)
 have HTN:=Lib.hid (fun (A:Option Addr) (n c:Nat) (V:World) (ht:Tr V A n c (rt NN))=>rtimes A A n n c c (rt NN) (rt NN) V (by have:=ht.ln;omega) (by have:=ht.ln;omega) ht.dg ht.dg)
 have HCN:=Lib.hid (fun (A B:Option Addr) (n m c d:Nat) (V:World) (ht:Tr V A n c (rt NN*rt NN)) (hu:Tr V B m d NN)=>rcmp_eq A B n m c d V (by have:=ht.ln;omega) (by have:=hu.ln;omega) h1 ht hu)
 have HTD:=Lib.hid (fun (A:Option Addr) (n c:Nat) (V:World) (ht:Tr V A n c (rt DD))=>rtimes A A n n c c (rt DD) (rt DD) V (by have:=ht.ln;omega) (by have:=ht.ln;omega) ht.dg ht.dg)
 have HCD:=Lib.hid (fun (A B:Option Addr) (n m c d:Nat) (V:World) (ht:Tr V A n c (rt DD*rt DD)) (hu:Tr V B m d DD)=>rcmp_eq A B n m c d V (by have:=ht.ln;omega) (by have:=hu.ln;omega) h2 ht hu)
 have hca:∀ (A B:Option Addr) (n m c d:Nat) (V:World),Tr V A n c (rt NN)→Tr V B m d (rt DD)→Calls Tryz.prog 123 #[.agg #[.bool false,.slice A n c,.slice B m d]] V (RetB V (.agg #[.bool false,.string mR,.bool false,.string kR])):=by
  intro A B n m c d V hA hB
  refine (rcanonical false A B n m c d _ _ V (by have:=hA.ln;omega) (by have:=hB.ln;omega) hA hB rp).mono ?_
  rintro e w3 ⟨b4,m4,k4,rfl,hq4,hb3⟩
  obtain ⟨rfl,rfl,rfl⟩:=hr.inj hq4
  exact ⟨rfl,hb3⟩
 have HCA:=Lib.hid hca
 clear n0 n1' hd0 r0 r1 rp q0 q1 hk s1 s2 h h1 h2 hr hca
 generalize rt NN=RN at *
 generalize rt DD=RD at *
 have X:=Lib.hid (((Sb.start w).new #[.bool false,.string m,.bool false,.string k] 25).new #[.bool false,.string ⟨#[]⟩,.bool false,.string ⟨#[]⟩] 25)
 have X:=Lib.hid (X.out.pick [0,1] [(w.heap.size,#[.bool false,.string m,.bool false,.string k],25),(w.heap.size+1,#[.bool false,.string ⟨#[]⟩,.bool false,.string ⟨#[]⟩],25)] [] (by simp) (by decide) (by simp))
 go_enter Tryz.func68,Tryz.ntmps68
 obtain ⟨a0,a1,a2,a3⟩:=X.out.c4 (i:=0) rfl
 go_wp2_with fail
 refine (HF.out _).mono ?_
 rintro e u1 ⟨A1,n1,c1,B1,n2,c2,rfl,ht9,hu9,hb9,hf9,hg9⟩
 have X:=Lib.hid (X.out.row2 hb9 ht9 hu9 hf9 hg9)
 clear hb9 ht9 hu9 hf9 hg9 a0 a1 a2 a3
 go_upto_region 2 with fail
 have X:=Lib.hid (X.out.new #[.bool false,.slice A1 n1 c1,.slice B1 n2 c2] 110)
 obtain ⟨gF,hgF⟩:∃ g,g=u1.heap.size:=⟨_,rfl⟩
 rw [←hgF] at X ⊢
 obtain ⟨W1,hV⟩:=wexi X.out
 rw [←hV] at X ⊢
 clear hV
 clear hgF
 go_cut [5,6] (fun s5 s6 wx=>∃ A5 n5 c5 A6 n6 c6,s5=.slice A5 n5 c5∧s6=.slice A6 n6 c6∧Tr wx A5 n5 c5 RN∧Tr wx A6 n6 c6 RD∧Sb w [(w.heap.size,#[.bool false,.string m,.bool false,.string k],25),(w.heap.size+1,#[.bool false,.string ⟨#[]⟩,.bool false,.string ⟨#[]⟩],25),(gF,#[.bool false,.slice A1 n1 c1,.slice B1 n2 c2],110)] [(A1,n1,c1,NN),(B1,n2,c2,DD)] wx)
 case first =>
  refine wp_region_late (S:=fun w'=>(w'.cell? ⟨gF,0,none⟩=some (.bool false)∧w'.cell? ⟨gF,1,none⟩=some (.slice A1 n1 c1)∧w'.cell? ⟨gF,2,none⟩=some (.slice B1 n2 c2))) (L:=[]) (by kernel_rfl) ?_
  have X:=Lib.hid X.out.drew
  obtain ⟨V0,hV⟩:=wexi X.out
  rw [←hV] at X ⊢
  clear hV
  refine tk (i:=0) (oi:=⟨some 9,_,_,_,_,_⟩) (v:=_) rfl (by kernel_rfl) (fun _ _ _ h=>h) (X.out.c3 (i:=2) rfl) (Or.inl ⟨by rfl,by intro w hSw;(try dsimp only at hSw);(first | (go_simp;done) | (go_simp;with_reducible rfl))⟩) ?_
  try simp only [Act.put,seti,set0,setS]
  refine tk (i:=1) (oi:=⟨some 10,_,_,_,_,_⟩) (v:=_) rfl (by kernel_rfl) (fun _ _ _ h=>h) (X.out.c3 (i:=2) rfl) (Or.inl ⟨by rfl,by intro w hSw;(try dsimp only at hSw);(first | (go_simp;done) | (go_simp;with_reducible rfl))⟩) ?_
  try simp only [Act.put,seti,set0,setS]
  refine tk (i:=3) (oi:=⟨some 12,_,_,_,_,_⟩) (v:=_) rfl (by kernel_rfl) (fun _ _ _ h=>h) (X.out.c3 (i:=2) rfl) (Or.inl ⟨by rfl,by intro w hSw;(try dsimp only at hSw);(first | (go_simp;done) | (go_simp;with_reducible rfl))⟩) ?_
  try simp only [Act.put,seti,set0,setS]
  refine tk (i:=4) (oi:=⟨some 13,_,_,_,_,_⟩) (v:=_) rfl (by kernel_rfl) (fun _ _ _ h=>h) (X.out.c3 (i:=2) rfl) (Or.inl ⟨by rfl,by intro w hSw;(try dsimp only at hSw);(first | (go_simp;done) | (go_simp;with_reducible rfl))⟩) ?_
  try simp only [Act.put,seti,set0,setS]
  refine wpLate_one (i:=2) (o:=⟨some 11,_,_,_,_,_⟩) (by kernel_rfl) rfl (fun K hK=>?_)
  go_simp
  (go_at_call 120;refine (HRN.out _ _ _ _ (X.out.rw (i:=0) rfl)).mono ?_;rintro e u1 ⟨A1,n1,c1,rfl,ht9,hb9⟩;have TG1:=Lib.hid ht9;have X:=Lib.hid (X.out.next hb9);clear hb9 ht9)
  try go_wp2_with fail
  refine hK.out _ _ (Or.inr (fun _=>X.out.c3 (i:=2) rfl)) ?_
  clear hK K
  try simp only [Act.put,seti,set0,setS]
  refine wpLate_one (i:=5) (o:=⟨some 14,_,_,_,_,_⟩) (by kernel_rfl) rfl (fun K hK=>?_)
  go_simp
  (go_at_call 120;refine (HRD.out _ _ _ _ (X.out.rw (i:=1) rfl)).mono ?_;rintro e u2 ⟨A2,n2,c2,rfl,ht9,hb9⟩;have TG1:=Lib.hid (TG1.out.below hb9);have TG2:=Lib.hid ht9;have X:=Lib.hid (X.out.next hb9);clear hb9 ht9)
  try go_wp2_with fail
  refine hK.out _ _ (Or.inr (fun _=>X.out.c3 (i:=2) rfl)) ?_
  clear hK K
  try simp only [Act.put,seti,set0,setS]
  refine tk (i:=6) (oi:=⟨some 5,_,_,_,_,_⟩) (v:=_) rfl (by kernel_rfl) (fun _ _ _ h=>h) (X.out.c3 (i:=2) rfl) (Or.inl ⟨by rfl,by intro w hSw;(try dsimp only at hSw);(first | (go_simp;done) | (go_simp;with_reducible rfl))⟩) ?_
  try simp only [Act.put,seti,set0,setS]
  refine tk (i:=7) (oi:=⟨some 6,_,_,_,_,_⟩) (v:=_) rfl (by kernel_rfl) (fun _ _ _ h=>h) (X.out.c3 (i:=2) rfl) (Or.inl ⟨by rfl,by intro w hSw;(try dsimp only at hSw);(first | (go_simp;done) | (go_simp;with_reducible rfl))⟩) ?_
  try simp only [Act.put,seti,set0,setS]
  refine wpLate_done (by kernel_rfl) ?_ _
  go_wp2_with fail
  go_meet
  exact ⟨_,_,_,_,_,_,rfl,rfl,TG1.out,TG2.out,X.out⟩
 obtain ⟨A5,n5,c5,A6,n6,c6,rfl,rfl,hT5,hT6,hX⟩:=hcut
 have X:=Lib.hid hX
 have TG5:=Lib.hid hT5
 have TG6:=Lib.hid hT6
 clear hX hT5 hT6
 go_upto_region 3 with fail
 refine wp_region_late (S:=fun w'=>(w'.cell? ⟨gF,0,none⟩=some (.bool false)∧w'.cell? ⟨gF,1,none⟩=some (.slice A1 n1 c1)∧w'.cell? ⟨gF,2,none⟩=some (.slice B1 n2 c2))) (L:=[]) (by kernel_rfl) ?_
 have X:=Lib.hid X.out.drew
 have TG5:=Lib.hid TG5.out.drew
 have TG6:=Lib.hid TG6.out.drew
 obtain ⟨V0,hV⟩:=wexi X.out
 rw [←hV] at X TG5 TG6 ⊢
 clear hV
 refine tk (i:=0) (oi:=⟨some 15,_,_,_,_,_⟩) (v:=_) rfl (by kernel_rfl) (fun _ _ _ h=>h) (X.out.c3 (i:=2) rfl) (Or.inl ⟨by rfl,by intro w hSw;(try dsimp only at hSw);(first | (go_simp;done) | (go_simp;with_reducible rfl))⟩) ?_
 try simp only [Act.put,seti,set0,setS]
 refine tk (i:=1) (oi:=⟨some 16,_,_,_,_,_⟩) (v:=_) rfl (by kernel_rfl) (fun _ _ _ h=>h) (X.out.c3 (i:=2) rfl) (Or.inl ⟨by rfl,by intro w hSw;(try dsimp only at hSw);(first | (go_simp;done) | (go_simp;with_reducible rfl))⟩) ?_
 try simp only [Act.put,seti,set0,setS]
 refine tk (i:=2) (oi:=⟨some 17,_,_,_,_,_⟩) (v:=_) rfl (by kernel_rfl) (fun _ _ _ h=>h) (X.out.c3 (i:=2) rfl) (Or.inl ⟨by rfl,by intro w hSw;(try dsimp only at hSw);(first | (go_simp;done) | (go_simp;with_reducible rfl))⟩) ?_
 try simp only [Act.put,seti,set0,setS]
 refine tk (i:=3) (oi:=⟨some 18,_,_,_,_,_⟩) (v:=_) rfl (by kernel_rfl) (fun _ _ _ h=>h) (X.out.c3 (i:=2) rfl) (Or.inl ⟨by rfl,by intro w hSw;(try dsimp only at hSw);(first | (go_simp;done) | (go_simp;with_reducible rfl))⟩) ?_
 try simp only [Act.put,seti,set0,setS]
 refine tk (i:=4) (oi:=⟨some 19,_,_,_,_,_⟩) (v:=_) rfl (by kernel_rfl) (fun _ _ _ h=>h) (X.out.c3 (i:=2) rfl) (Or.inl ⟨by rfl,by intro w hSw;(try dsimp only at hSw);(first | (go_simp;done) | (go_simp;with_reducible rfl))⟩) ?_
 try simp only [Act.put,seti,set0,setS]
 refine tk (i:=6) (oi:=⟨some 21,_,_,_,_,_⟩) (v:=_) rfl (by kernel_rfl) (fun _ _ _ h=>h) (X.out.c3 (i:=2) rfl) (Or.inl ⟨by rfl,by intro w hSw;(try dsimp only at hSw);(first | (go_simp;done) | (go_simp;with_reducible rfl))⟩) ?_
 try simp only [Act.put,seti,set0,setS]
 refine tk (i:=7) (oi:=⟨some 22,_,_,_,_,_⟩) (v:=_) rfl (by kernel_rfl) (fun _ _ _ h=>h) (X.out.c3 (i:=2) rfl) (Or.inl ⟨by rfl,by intro w hSw;(try dsimp only at hSw);(first | (go_simp;done) | (go_simp;with_reducible rfl))⟩) ?_
 try simp only [Act.put,seti,set0,setS]
 refine wpLate_one (i:=5) (o:=⟨some 20,_,_,_,_,_⟩) (by kernel_rfl) rfl (fun K hK=>?_)
 go_simp
 (go_at_call 122;refine (HTN.out _ _ _ _ TG5.out).mono ?_;rintro e u1 ⟨A1,n1,c1,rfl,ht9,hb9,hf9⟩;have TG5:=Lib.hid (TG5.out.below hb9);have TG6:=Lib.hid (TG6.out.below hb9);have X:=Lib.hid (X.out.row hb9 ht9 hf9);clear hb9 ht9 hf9)
 try go_wp2_with fail
 refine hK.out _ _ (Or.inr (fun _=>X.out.c3 (i:=2) rfl)) ?_
 clear hK K
 try simp only [Act.put,seti,set0,setS]
 refine wpLate_one (i:=8) (o:=⟨some 23,_,_,_,_,_⟩) (by kernel_rfl) rfl (fun K hK=>?_)
 go_simp
 (go_at_call 121;refine (HCN.out _ _ _ _ _ _ _ (X.out.rw (i:=2) rfl) (X.out.rw (i:=0) rfl)).mono ?_;rintro e u2 ⟨rfl,hb9⟩;have TG5:=Lib.hid (TG5.out.below hb9);have TG6:=Lib.hid (TG6.out.below hb9);have X:=Lib.hid (X.out.next hb9);clear hb9)
 try go_wp2_with fail
 refine hK.out _ _ (Or.inr (fun _=>X.out.c3 (i:=2) rfl)) ?_
 clear hK K
 try simp only [Act.put,seti,set0,setS]
 refine tk (i:=9) (oi:=⟨some 24,_,_,_,_,_⟩) (v:=_) rfl (by kernel_rfl) (fun _ _ _ h=>h) (X.out.c3 (i:=2) rfl) (Or.inl ⟨by rfl,by intro w hSw;(try dsimp only at hSw);(first | (go_simp;done) | (go_simp;with_reducible rfl))⟩) ?_
 try simp only [Act.put,seti,set0,setS]
 refine tk (i:=10) (oi:=⟨some 25,_,_,_,_,_⟩) (v:=_) rfl (by kernel_rfl) (fun _ _ _ h=>h) (X.out.c3 (i:=2) rfl) (Or.inl ⟨by rfl,by intro w hSw;(try dsimp only at hSw);(first | (go_simp;done) | (go_simp;with_reducible rfl))⟩) ?_
 try simp only [Act.put,seti,set0,setS]
 refine tk (i:=11) (oi:=⟨some 26,_,_,_,_,_⟩) (v:=_) rfl (by kernel_rfl) (fun _ _ _ h=>h) (X.out.c3 (i:=2) rfl) (Or.inl ⟨by rfl,by intro w hSw;(try dsimp only at hSw);(first | (go_simp;done) | (go_simp;with_reducible rfl))⟩) ?_
 try simp only [Act.put,seti,set0,setS]
 refine tk (i:=12) (oi:=⟨some 27,_,_,_,_,_⟩) (v:=_) rfl (by kernel_rfl) (fun _ _ _ h=>h) (X.out.c3 (i:=2) rfl) (Or.inl ⟨by rfl,by intro w hSw;(try dsimp only at hSw);(first | (go_simp;done) | (go_simp;with_reducible rfl))⟩) ?_
 try simp only [Act.put,seti,set0,setS]
 refine tk (i:=13) (oi:=⟨some 28,_,_,_,_,_⟩) (v:=_) rfl (by kernel_rfl) (fun _ _ _ h=>h) (X.out.c3 (i:=2) rfl) (Or.inl ⟨by rfl,by intro w hSw;(try dsimp only at hSw);(first | (go_simp;done) | (go_simp;with_reducible rfl))⟩) ?_
 try simp only [Act.put,seti,set0,setS]
 refine tk (i:=15) (oi:=⟨some 30,_,_,_,_,_⟩) (v:=_) rfl (by kernel_rfl) (fun _ _ _ h=>h) (X.out.c3 (i:=2) rfl) (Or.inl ⟨by rfl,by intro w hSw;(try dsimp only at hSw);(first | (go_simp;done) | (go_simp;with_reducible rfl))⟩) ?_
 try simp only [Act.put,seti,set0,setS]
 refine tk (i:=16) (oi:=⟨some 31,_,_,_,_,_⟩) (v:=_) rfl (by kernel_rfl) (fun _ _ _ h=>h) (X.out.c3 (i:=2) rfl) (Or.inl ⟨by rfl,by intro w hSw;(try dsimp only at hSw);(first | (go_simp;done) | (go_simp;with_reducible rfl))⟩) ?_
 try simp only [Act.put,seti,set0,setS]
 refine wpLate_one (i:=14) (o:=⟨some 29,_,_,_,_,_⟩) (by kernel_rfl) rfl (fun K hK=>?_)
 go_simp
 (go_at_call 122;refine (HTD.out _ _ _ _ TG6.out).mono ?_;rintro e u3 ⟨A3,n3,c3,rfl,ht9,hb9,hf9⟩;have TG5:=Lib.hid (TG5.out.below hb9);have TG6:=Lib.hid (TG6.out.below hb9);have X:=Lib.hid (X.out.row hb9 ht9 hf9);clear hb9 ht9 hf9)
 try go_wp2_with fail
 refine hK.out _ _ (Or.inr (fun _=>X.out.c3 (i:=2) rfl)) ?_
 clear hK K
 try simp only [Act.put,seti,set0,setS]
 refine wpLate_one (i:=17) (o:=⟨some 32,_,_,_,_,_⟩) (by kernel_rfl) rfl (fun K hK=>?_)
 go_simp
 (go_at_call 121;refine (HCD.out _ _ _ _ _ _ _ (X.out.rw (i:=3) rfl) (X.out.rw (i:=1) rfl)).mono ?_;rintro e u4 ⟨rfl,hb9⟩;have TG5:=Lib.hid (TG5.out.below hb9);have TG6:=Lib.hid (TG6.out.below hb9);have X:=Lib.hid (X.out.next hb9);clear hb9)
 try go_wp2_with fail
 refine hK.out _ _ (Or.inr (fun _=>X.out.c3 (i:=2) rfl)) ?_
 clear hK K
 try simp only [Act.put,seti,set0,setS]
 refine tk (i:=18) (oi:=⟨some 33,_,_,_,_,_⟩) (v:=_) rfl (by kernel_rfl) (fun _ _ _ h=>h) (X.out.c3 (i:=2) rfl) (Or.inl ⟨by rfl,by intro w hSw;(try dsimp only at hSw);(first | (go_simp;done) | (go_simp;with_reducible rfl))⟩) ?_
 try simp only [Act.put,seti,set0,setS]
 refine tk (i:=19) (oi:=⟨some 34,_,_,_,_,_⟩) (v:=_) rfl (by kernel_rfl) (fun _ _ _ h=>h) (X.out.c3 (i:=2) rfl) (Or.inl ⟨by rfl,by intro w hSw;(try dsimp only at hSw);(first | (go_simp;done) | (go_simp;with_reducible rfl))⟩) ?_
 try simp only [Act.put,seti,set0,setS]
 refine wpLate_done (by kernel_rfl) ?_ _
 go_wp2_with fail
 refine (HCA.out _ _ _ _ _ _ _ TG5.out TG6.out).mono ?_
 rintro e u9 ⟨rfl,hb9⟩
 have X:=Lib.hid (X.out.next hb9)
 clear hb9
 obtain ⟨x0,x1,x2,x3⟩:=X.out.c4 (i:=1) rfl
 obtain ⟨y0,y1,y2,y3⟩:=X.out.f4 (i:=1) rfl
 go_wp2
 have X:=Lib.hid (X.out.set4 (i:=1) rfl (.bool false) (.string mR) (.bool false) (.string kR))
 obtain ⟨p0,p1,p2,p3⟩:=X.out.c4 (i:=1) rfl
 exact bodyPost_ret (v:=.tuple #[.agg #[.bool false,.string mR,.bool false,.string kR],.bool true]) (by simp [results,Tryz.results68,go_sem,p0,p1,p2,p3]) rfl ⟨rfl,X.out.bel⟩
end Go.Proofs.YtpnokfgplnmjpaaGreatDoor


namespace Go.Proofs.YtpnokfgplnmjpaaGreatDoor
open Go.RowKit
attribute [local go_sem ↓] Go.wp_at_zero Go.wp_at_succ

theorem sq_parts (q:Rat):(q*q).num=((q.num.natAbs*q.num.natAbs:Nat):Int)∧(q*q).den=q.den*q.den:=by
 rw [Rat.mul_def']
 obtain ⟨h1,h2⟩:=mkRat_parts (q.num*q.num) (d:=q.den*q.den) (Nat.mul_ne_zero q.den_nz q.den_nz)
 have hc:Nat.gcd (q.num*q.num).natAbs (q.den*q.den)=1:=by
  rw [Int.natAbs_mul]
  have h:=q.reduced
  exact Nat.Coprime.gcd_eq_one (Nat.Coprime.mul_left (Nat.Coprime.mul_right h h) (Nat.Coprime.mul_right h h))
 rw [hc] at h1 h2
 rw [h1,h2]
 refine ⟨?_,Nat.div_one _⟩
 rw [Int.natCast_one,Int.ediv_one,Int.natCast_mul]
 exact (Int.natAbs_mul_self' q.num).symm
theorem rq_nat {X Y:Nat} (hY:0<Y) (hc:Nat.gcd X Y=1):Rq (mkRat (sgn false X) Y) false (mag X) (dm Y) :=
 Rq.of_mk hY (by rw [hc,Nat.div_one];exact enc_mag X) (by rw [hc,Nat.div_one])
theorem root_cop {N D r s:Nat} (h1:r*r=N) (h2:s*s=D) (h:Nat.Coprime N D):Nat.gcd r s=1:=by
 rw [←h1,←h2] at h
 exact Nat.Coprime.gcd_eq_one (Nat.Coprime.coprime_mul_right_right (Nat.Coprime.coprime_mul_right h))

end Go.Proofs.YtpnokfgplnmjpaaGreatDoor


namespace Go.Proofs.YtpnokfgplnmjpaaGreatDoor
open Go.RowKit
attribute [local go_sem ↓] Go.wp_at_zero Go.wp_at_succ

theorem root_yes_z {q:Rat} {b:Bool} {m k:ByteArray} (h:Rq q b m k) (zq:Sz 9000 q) (hs:Sg.Sq q) {b2:Bool} {m2 k2:ByteArray} (hr:Rq (Sg.rt q) b2 m2 k2) :
  (∀ V,Env V→Calls Tryz.prog 72 #[.agg #[.bool b,.string m,.bool false,.string k]] V (RetB V (.tuple #[.agg #[.bool b2,.string m2,.bool false,.string k2],.bool true]))) ∧
   (∀ V,Calls Tryz.prog 68 #[.agg #[.bool b,.string m,.bool false,.string k]] V (RetB V (.tuple #[.agg #[.bool b2,.string m2,.bool false,.string k2],.bool true]))):=by
 obtain ⟨z,hz,e⟩:=hs
 rw [Sg.rt_eq hz e] at hr
 obtain ⟨s1,s2⟩:=sq_parts z
 rw [e] at s1 s2
 have hn:¬z.num<0:=by rw [num_neg_iff];grind
 obtain ⟨e1,e2⟩:=hr.mag
 rw [decide_eq_false hn] at e1
 have e3:=hr.den
 subst e1 e2 e3
 have hm:=h.mag
 have hb:b=false:=by rw [hm.1,s1];exact decide_eq_false (by omega)
 subst hb
 have t1:=zq.1
 have t2:=zq.2
 have n1:q.num.natAbs=z.num.natAbs*z.num.natAbs:=by rw [s1,Int.natAbs_natCast]
 refine ⟨fun V hV=>ratRoot_yes h s1 s2 (by rw [←n1];exact Nat.le_trans (mag_size_le t1) (by omega)) (by rw [←s2];exact Nat.le_trans (mag_size_le t2) (by omega)) V hV,fun V=>?_⟩
 have r1:rt q.num.natAbs=z.num.natAbs:=by rw [n1,rt_square]
 have r2:rt q.den=z.den:=by rw [s2,rt_square]
 have g:=rRoot_yes (mR:=mag z.num.natAbs) (kR:=dm z.den) h (by rw [r1,n1]) (by rw [r2,s2]) (by rw [r1,r2];exact rq_nat z.den_pos z.reduced) (by rw [hm.2];exact Nat.le_trans (mag_size_le t1) (by omega)) (Nat.le_trans (mag_size_le t2) (by omega)) V
 exact g

theorem root_no_z {q:Rat} {b:Bool} {m k:ByteArray} (h:Rq q b m k) (zq:Sz 9000 q) (hs:¬Sg.Sq q) :
  (∀ V,Env V→Calls Tryz.prog 72 #[.agg #[.bool b,.string m,.bool false,.string k]] V (RetB V (.tuple #[.agg #[.bool false,.string ⟨#[]⟩,.bool false,.string ⟨#[]⟩],.bool false]))) ∧
   (∀ V,Calls Tryz.prog 68 #[.agg #[.bool b,.string m,.bool false,.string k]] V (RetB V (.tuple #[.agg #[.bool false,.string ⟨#[]⟩,.bool false,.string ⟨#[]⟩],.bool false]))):=by
 have t1:m.size≤9000:=(by rw [h.mag.2];exact Nat.le_trans (mag_size_le zq.1) (by omega))
 have t2:(mag q.den).size≤9000:=Nat.le_trans (mag_size_le zq.2) (by omega)
 cases b
 · have hn:¬q.num<0:=of_decide_eq_false h.mag.1.symm
   have hm:=h.mag.2
   by_cases h1:rt q.num.natAbs*rt q.num.natAbs=q.num.natAbs
   · by_cases h2:rt q.den*rt q.den=q.den
     · exfalso
       refine hs ⟨mkRat (rt q.num.natAbs) (rt q.den),?_,?_⟩
       · rw [←Rat.num_nonneg,(mkRat_parts _ (Nat.pos_iff_ne_zero.1 (rt_pos q.den_pos))).1]
         exact Int.ediv_nonneg (by omega) (by omega)
       · obtain ⟨p1,p2⟩:=mkRat_parts ((rt q.num.natAbs:Nat):Int) (Nat.pos_iff_ne_zero.1 (rt_pos q.den_pos))
         have hc:=root_cop h1 h2 q.reduced
         rw [Int.natAbs_natCast,hc] at p1 p2
         rw [Int.natCast_one,Int.ediv_one] at p1
         rw [Nat.div_one] at p2
         obtain ⟨s1,s2⟩:=sq_parts (mkRat ((rt q.num.natAbs:Nat):Int) (rt q.den))
         rw [p1,Int.natAbs_natCast,h1] at s1
         rw [p2,h2] at s2
         refine Rat.ext ?_ s2
         rw [s1]
         omega
     · exact ⟨fun V hV=>ratRoot_no2 h h1.symm h2 (by rw [h1,←hm];omega) (by omega) V hV,fun V=>rRoot_no2 h h1 h2 t1 t2 V⟩
   · exact ⟨fun V _=>ratRoot_no1 h (.inr h1) (by omega) V,fun V=>rRoot_no1 h h1 t1 t2 V⟩
 · have hn:q.num<0:=of_decide_eq_true h.mag.1.symm
   exact ⟨fun V _=>ratRoot_no1 h (.inl hn) (by omega) V,fun V=>rRoot_neg h t1 t2 V⟩

theorem Sz.root {n:Nat} {q:Rat} (h:Sz (n+1) q):Sz (n+1) (Sg.rt q):=by
 by_cases hs:Sg.Sq q
 · obtain ⟨z,hz,e⟩:=hs
   rw [Sg.rt_eq hz e]
   obtain ⟨s1,s2⟩:=sq_parts z
   rw [e] at s1 s2
   have t1:=h.1
   have t2:=h.2
   rw [s1,Int.natAbs_natCast] at t1
   rw [s2] at t2
   exact ⟨Nat.lt_of_le_of_lt (Nat.le_mul_self _) t1,Nat.lt_of_le_of_lt (Nat.le_mul_self _) t2⟩
 · unfold Sg.rt
   rw [dif_neg hs]
   exact Sz.zero n
end Go.Proofs.YtpnokfgplnmjpaaGreatDoor


namespace Go.Proofs.YtpnokfgplnmjpaaGreatDoor
open Go.RowKit
attribute [local go_sem ↓] Go.wp_at_zero Go.wp_at_succ

theorem sgq_abs (q:Rat):Sg.sgq q=-1∨Sg.sgq q=0∨Sg.sgq q=1:=by
 rcases Sg.sgq_three q with ⟨-,e⟩ | ⟨-,e⟩ | ⟨-,e⟩<;>rw [e]<;>simp
theorem wrap_ts {t c:Int} (ht:t=1∨t=-1) (h:c=-1∨c=0∨c=1):IntKind.i64.wrap (t*c)=t*c:=by
 rcases ht with rfl | rfl<;>rcases h with rfl | rfl | rfl<;>decide
theorem wrap_st {t c:Int} (ht:t=1∨t=-1) (h:c=-1∨c=0∨c=1):IntKind.i64.wrap (c*t)=c*t:=by rw [Int.mul_comm];exact wrap_ts ht h
theorem sos_abs (p:Rat) {s:Int} (hs:s=1∨s=-1) (r:Rat):Sg.sos p s r=-1∨Sg.sos p s r=0∨Sg.sos p s r=1:=by
 unfold Sg.sos
 split
 · omega
 · rcases sgq_abs (r-p*p) with e | e | e<;>rcases hs with rfl | rfl<;>rw [e]<;>simp

set_option maxHeartbeats 8000000 in
set_option maxRecDepth 100000 in
theorem sos_f {p r:Rat} {b1 b2:Bool} {m1 k1 m2 k2:ByteArray} (hp:Rq p b1 m1 k1) (hr:Rq r b2 m2 k2) (zp:Sz 4000 p) (zr:Sz 9000 r) {s:Int} (hs:s=1∨s=-1) (w:World) (hE:Env w) :
  Calls Tryz.prog 87 #[.agg #[.bool b1,.string m1,.bool false,.string k1],.int .i64 s,.agg #[.bool b2,.string m2,.bool false,.string k2]] w (RetB w (.int .i64 (Sg.sos p s r))):=by
 obtain ⟨b3,m3,k3,h3⟩:=Rq.some_ (p*p)
 have P1:=Lib.hid (show (Sg.sgq p != -s)=true→Sg.sos p s r=s from fun h=>by unfold Sg.sos;rw [if_pos (by simpa using h)])
 have P2:=Lib.hid (show (Sg.sgq p != -s)=false→Sg.sos p s r=s*Sg.sgq (r-p*p) from fun h=>by unfold Sg.sos;rw [if_neg (by simpa using h)])
 have hw:=wrap_ts hs (sgq_abs (r-p*p))
 have C1:=kn w (sign_z hp)
 have C2:=ke hE (mul_z hp hp h3 (zp.up (by omega)) (zp.up (by omega)))
 have C3:=ke hE (cmp_z hr h3 (zr.up (by omega)) ((zp.mul zp).up (by omega)))
 clear hp hr zp zr h3 hE
 go_enter Tryz.func87,Tryz.ntmps87
 exact wk0

theorem cmp_rat0 {x:Sg.Rl} (ok:x.Ok) (h0:x.a=0) (r:Rat):Sg.cmpX x (Sg.Rl.of r)=Sg.sgq (x.p-r):=by
 rcases Sg.ok_cases ok with ⟨_,h2⟩ | ⟨h2,-⟩
 · rw [show x=Sg.Rl.of x.p from Sg.Rl.ext' rfl h0 h2];exact Sg.cmp_of _ _
 · grind
theorem ok_pos {x:Sg.Rl} (ok:x.Ok) (h0:¬x.a=0):0<x.a:=by
 rcases Sg.ok_cases ok with ⟨h1,-⟩ | ⟨h1,-⟩
 · exact absurd h1 h0
 · exact h1

set_option maxHeartbeats 8000000 in
set_option maxRecDepth 100000 in
theorem crat_f {x:Sg.Rl} {r:Rat} {b1 c1 s1:Bool} {m1 k1 n1 l1:ByteArray} {b2:Bool} {m2 k2:ByteArray} (hx:Rv x b1 m1 k1 c1 n1 l1 s1) (ok:x.Ok) (hr:Rq r b2 m2 k2) (zx:Rz 1500 x) (zr:Sz 1500 r) (w:World) (hE:Env w) :
  Calls Tryz.prog 38 #[.agg #[.bool b1,.string m1,.bool false,.string k1,.bool c1,.string n1,.bool false,.string l1,.bool s1],.agg #[.bool b2,.string m2,.bool false,.string k2]] w (RetB w (.int .i64 (Sg.cmpX x (Sg.Rl.of r)))):=by
 obtain ⟨b3,m3,k3,h3⟩:=Rq.some_ (x.p-r)
 have P1:=Lib.hid (show x.a=0→Sg.cmpX x (Sg.Rl.of r)=Sg.sgq (x.p-r) from fun h=>cmp_rat0 ok h r)
 have P2:=Lib.hid (show ¬x.a=0→Sg.cmpX x (Sg.Rl.of r)=Sg.sos (x.p-r) x.s x.a from fun h=>Sg.cmp_root (ok_pos ok h) r)
 have C1:=kn w (isRat_f hx)
 have C2:=ke hE (cmp_z hx.p hr (zx.p.up (by omega)) (zr.up (by omega)))
 have C3:=ke hE (sub_z hx.p hr h3 (zx.p.up (by omega)) (zr.up (by omega)))
 have C4:=kn w (rootSign_f hx ok.sg)
 have C5:=ke hE (sos_f h3 hx.r ((zx.p.sub zr).up (by omega)) (zx.r.up (by omega)) ok.sg)
 clear hx ok hr zx zr h3 hE
 go_enter Tryz.func38,Tryz.ntmps38
 exact wk0

set_option maxHeartbeats 8000000 in
set_option maxRecDepth 100000 in
theorem rsgn_f {x:Sg.Rl} {b1 c1 s1:Bool} {m1 k1 n1 l1:ByteArray} (hx:Rv x b1 m1 k1 c1 n1 l1 s1) (ok:x.Ok) (zx:Rz 1500 x) (w:World) (hE:Env w) :
  Calls Tryz.prog 39 #[.agg #[.bool b1,.string m1,.bool false,.string k1,.bool c1,.string n1,.bool false,.string l1,.bool s1]] w (RetB w (.int .i64 (Sg.cmpX x (Sg.Rl.of 0)))):=by
 have e0:x.p-0=x.p:=by grind
 have P1:=Lib.hid (show x.a=0→Sg.cmpX x (Sg.Rl.of 0)=Sg.sgq x.p from fun h=>by rw [cmp_rat0 ok h,e0])
 have P2:=Lib.hid (show ¬x.a=0→Sg.cmpX x (Sg.Rl.of 0)=Sg.sos x.p x.s x.a from fun h=>by rw [Sg.cmp_root (ok_pos ok h),e0])
 have C1:=kn w (isRat_f hx)
 have C2:=kn w (sign_z hx.p)
 have C3:=kn w (rootSign_f hx ok.sg)
 have C4:=ke hE (sos_f hx.p hx.r (zx.p.up (by omega)) (zx.r.up (by omega)) ok.sg)
 clear hx ok zx e0 hE
 go_enter Tryz.func39,Tryz.ntmps39
 exact wk0
end Go.Proofs.YtpnokfgplnmjpaaGreatDoor


namespace Go.Proofs.YtpnokfgplnmjpaaGreatDoor
open Go.RowKit
attribute [local go_sem ↓] Go.wp_at_zero Go.wp_at_succ

set_option maxHeartbeats 8000000 in
set_option maxRecDepth 100000 in
theorem fchk_zero (w:World) {b1 d1 s1:Bool} {m1 k1:ByteArray} (HC1:∀ V,Below w.heap.size w V→Calls Tryz.prog 57 #[.agg #[.bool b1,.string m1,.bool d1,.string k1]] V (RetB V (.bool true))) (HC2:∀ V,Below w.heap.size w V→Calls Tryz.prog 57 #[.agg #[.bool false,.string ⟨#[]⟩,.bool false,.string ⟨#[]⟩]] V (RetB V (.bool true))) (HS:∀ V,Below w.heap.size w V→Calls Tryz.prog 28 #[.agg #[.bool false,.string ⟨#[]⟩,.bool false,.string ⟨#[]⟩]] V (RetB V (.int .i64 (0)))) (HZ:∀ V,Below w.heap.size w V→Calls Tryz.prog 24 #[] V (RetB V (.agg #[.bool false,.string ⟨#[]⟩,.bool false,.string ⟨#[]⟩]))) :
  Calls Tryz.prog 17 #[.agg #[.bool b1,.string m1,.bool d1,.string k1,.bool false,.string ⟨#[]⟩,.bool false,.string ⟨#[]⟩,.bool s1]] w (RetB w (.bool (!s1))):=by
 have C1:=Lib.hid HC1
 have C2:=Lib.hid HC2
 have C3:=Lib.hid HS
 have C4:=Lib.hid HZ
 clear HC1 HC2 HS HZ 
 go_enter Tryz.func17,Tryz.ntmps17
 exact wk0

set_option maxHeartbeats 8000000 in
set_option maxRecDepth 100000 in
theorem fchk_neg (w:World) {b1 d1 s1:Bool} {m1 k1 n1 l1:ByteArray} (HC1:∀ V,Below w.heap.size w V→Calls Tryz.prog 57 #[.agg #[.bool b1,.string m1,.bool d1,.string k1]] V (RetB V (.bool true))) (HC2:∀ V,Below w.heap.size w V→Calls Tryz.prog 57 #[.agg #[.bool true,.string n1,.bool false,.string l1]] V (RetB V (.bool true))) (HS:∀ V,Below w.heap.size w V→Calls Tryz.prog 28 #[.agg #[.bool true,.string n1,.bool false,.string l1]] V (RetB V (.int .i64 (-1)))) (HZ:∀ V,Below w.heap.size w V→Calls Tryz.prog 24 #[] V (RetB V (.agg #[.bool false,.string ⟨#[]⟩,.bool false,.string ⟨#[]⟩]))) :
  Calls Tryz.prog 17 #[.agg #[.bool b1,.string m1,.bool d1,.string k1,.bool true,.string n1,.bool false,.string l1,.bool s1]] w (RetB w (.bool false)):=by
 have C1:=Lib.hid HC1
 have C2:=Lib.hid HC2
 have C3:=Lib.hid HS
 have C4:=Lib.hid HZ
 clear HC1 HC2 HS HZ 
 go_enter Tryz.func17,Tryz.ntmps17
 exact wk0

set_option maxHeartbeats 8000000 in
set_option maxRecDepth 100000 in
theorem fchk_pos (w:World) {b1 d1 c1 e1 s1:Bool} {m1 k1 n1 l1:ByteArray} {o:Bool} {b2 c2:Bool} {m2 k2:ByteArray} (HC1:∀ V,Below w.heap.size w V→Calls Tryz.prog 57 #[.agg #[.bool b1,.string m1,.bool d1,.string k1]] V (RetB V (.bool true))) (HC2:∀ V,Below w.heap.size w V→Calls Tryz.prog 57 #[.agg #[.bool c1,.string n1,.bool e1,.string l1]] V (RetB V (.bool true))) (HS:∀ V,Below w.heap.size w V→Calls Tryz.prog 28 #[.agg #[.bool c1,.string n1,.bool e1,.string l1]] V (RetB V (.int .i64 1))) (HR:∀ V,Below w.heap.size w V→Calls Tryz.prog 68 #[.agg #[.bool c1,.string n1,.bool e1,.string l1]] V (RetB V (.tuple #[.agg #[.bool b2,.string m2,.bool c2,.string k2],.bool o]))) :
  Calls Tryz.prog 17 #[.agg #[.bool b1,.string m1,.bool d1,.string k1,.bool c1,.string n1,.bool e1,.string l1,.bool s1]] w (RetB w (.bool (!o))):=by
 have C1:=Lib.hid HC1
 have C2:=Lib.hid HC2
 have C3:=Lib.hid HS
 have C4:=Lib.hid HR
 clear HC1 HC2 HS HR 
 go_enter Tryz.func17,Tryz.ntmps17
 exact wk0

end Go.Proofs.YtpnokfgplnmjpaaGreatDoor


namespace Go.Proofs.YtpnokfgplnmjpaaGreatDoor
open Go.RowKit
attribute [local go_sem ↓] Go.wp_at_zero Go.wp_at_succ

set_option maxHeartbeats 8000000 in
set_option maxRecDepth 100000 in
theorem norm_f {x:Sg.Rl} {b1 c1 s1:Bool} {m1 k1 n1 l1:ByteArray} {b3:Bool} {m3 k3:ByteArray} (hx:Rv x b1 m1 k1 c1 n1 l1 s1) (hr:Rq (x.p*x.p-x.a) b3 m3 k3) (zx:Rz 2000 x) (w:World) (hE:Env w) :
  Calls Tryz.prog 90 #[.agg #[.bool b1,.string m1,.bool false,.string k1,.bool c1,.string n1,.bool false,.string l1,.bool s1]] w (RetB w (.agg #[.bool b3,.string m3,.bool false,.string k3])):=by
 obtain ⟨b4,m4,k4,h4⟩:=Rq.some_ (x.p*x.p)
 have C1:=ke hE (mul_z hx.p hx.p h4 (zx.p.up (by omega)) (zx.p.up (by omega)))
 have C2:=ke hE (sub_z h4 hx.r hr ((zx.p.mul zx.p).up (by omega)) (zx.r.up (by omega)))
 have RS:=Lib.hid Tryz.results90
 clear hx hr zx h4 hE
 go_enter Tryz.func90,Tryz.ntmps90
 exact wk0

set_option maxHeartbeats 8000000 in
set_option maxRecDepth 100000 in
theorem sum_no {r:Rat} {b1 b2:Bool} {m1 k1 m2 k2:ByteArray} (hr:Rq r b2 m2 k2) (zr:Sz 9000 r) (hn:¬Sg.Sq r) (s:Int) (w:World) (hE:Env w) :
  Calls Tryz.prog 76 #[.agg #[.bool b1,.string m1,.bool false,.string k1],.int .i64 s,.agg #[.bool b2,.string m2,.bool false,.string k2]] w (RetB w (.agg #[.bool b1,.string m1,.bool false,.string k1,.bool b2,.string m2,.bool false,.string k2,.bool (decide (s<0))])):=by
 have C1:=ke hE ((root_no_z hr zr hn).1)
 have RS:=Lib.hid Tryz.results76
 clear hr zr hn hE
 go_enter Tryz.func76,Tryz.ntmps76
 exact wk0

set_option maxHeartbeats 8000000 in
set_option maxRecDepth 100000 in
theorem sum_yes {p r:Rat} {b1 b2 b4:Bool} {m1 k1 m2 k2 m4 k4:ByteArray} (hp:Rq p b1 m1 k1) (hr:Rq r b2 m2 k2) (zp:Sz 9000 p) (zr:Sz (8999+1) r) (hn:Sg.Sq r) (s:Int) (h4:Rq (if s<0 then p-Sg.rt r else p+Sg.rt r) b4 m4 k4) (w:World) (hE:Env w) :
  Calls Tryz.prog 76 #[.agg #[.bool b1,.string m1,.bool false,.string k1],.int .i64 s,.agg #[.bool b2,.string m2,.bool false,.string k2]] w (RetB w (.agg #[.bool b4,.string m4,.bool false,.string k4,.bool false,.string ⟨#[]⟩,.bool false,.string ⟨#[]⟩,.bool false])):=by
 obtain ⟨b3,m3,k3,h3⟩:=Rq.some_ (Sg.rt r)
 have z3:=zr.root
 have C2:=Lib.hid (fun V (hb:Below w.heap.size w V) (h:s<0)=>sub_z hp h3 (by rw [if_pos h] at h4;exact h4) (zp.up (by omega)) (z3.up (by omega)) V (hE.next hb))
 have C3:=Lib.hid (fun V (hb:Below w.heap.size w V) (h:¬s<0)=>add_z hp h3 (by rw [if_neg h] at h4;exact h4) (zp.up (by omega)) (z3.up (by omega)) V (hE.next hb))
 have C1:=ke hE ((root_yes_z hr zr hn h3).1)
 have C4:=kn w (fromRat_any b4 m4 k4)
 have RS:=Lib.hid Tryz.results76
 clear hp hr zp zr hn h3 h4 z3 hE
 go_enter Tryz.func76,Tryz.ntmps76
 exact wk0

theorem sum_f {p r:Rat} {b1 b2:Bool} {m1 k1 m2 k2:ByteArray} {b3 c3 s3:Bool} {m3 k3 n3 l3:ByteArray} (hp:Rq p b1 m1 k1) (hr:Rq r b2 m2 k2) (zp:Sz 9000 p) (zr:Sz 9000 r) (s:Int) (h3:Rv (Sg.sumP p s r) b3 m3 k3 c3 n3 l3 s3) (w:World) (hE:Env w) :
  Calls Tryz.prog 76 #[.agg #[.bool b1,.string m1,.bool false,.string k1],.int .i64 s,.agg #[.bool b2,.string m2,.bool false,.string k2]] w (RetB w (.agg #[.bool b3,.string m3,.bool false,.string k3,.bool c3,.string n3,.bool false,.string l3,.bool s3])):=by
 unfold Sg.sumP at h3
 by_cases hn:Sg.Sq r
 · rw [if_pos hn] at h3
   have e:(if s<0 then (⟨p-Sg.rt r,0,1⟩:Sg.Rl) else ⟨p+Sg.rt r,0,1⟩)=⟨if s<0 then p-Sg.rt r else p+Sg.rt r,0,1⟩:=by split<;>rfl
   rw [e] at h3
   obtain ⟨rfl,rfl,rfl⟩:=h3.r.nought.1 rfl
   obtain rfl:s3=false:=h3.neg
   exact sum_yes hp hr zp zr hn s h3.p w hE
 · rw [if_neg hn] at h3
   obtain ⟨rfl,rfl,rfl⟩:=h3.p.inj hp
   obtain ⟨rfl,rfl,rfl⟩:=h3.r.inj hr
   obtain rfl:s3=decide (s<0):=by
    rw [h3.neg]
    by_cases h:s<0
    · simp [h]
    · simp [h]
   exact sum_no hr zr hn s w hE

set_option maxHeartbeats 8000000 in
set_option maxRecDepth 100000 in
theorem rmk_f {p q r:Rat} {b1 b2 b3:Bool} {m1 k1 m2 k2 m3 k3:ByteArray} {b6 c6 s6:Bool} {m6 k6 n6 l6:ByteArray} (hp:Rq p b1 m1 k1) (hq:Rq q b2 m2 k2) (hr:Rq r b3 m3 k3) (h0:¬r<0) (zp:Sz 2000 p) (zq:Sz 2000 q) (zr:Sz 2000 r) (h6:Rv (Sg.mkR p q r) b6 m6 k6 c6 n6 l6 s6) (w:World) (hE:Env w) :
  Calls Tryz.prog 27 #[.agg #[.bool b1,.string m1,.bool false,.string k1],.agg #[.bool b2,.string m2,.bool false,.string k2],.agg #[.bool b3,.string m3,.bool false,.string k3]] w (RetB w (.tuple #[.agg #[.bool b6,.string m6,.bool false,.string k6,.bool c6,.string n6,.bool false,.string l6,.bool s6],.int .i64 0])):=by
 obtain ⟨b4,m4,k4,h4⟩:=Rq.some_ (q*q)
 obtain ⟨b5,m5,k5,h5⟩:=Rq.some_ (q*q*r)
 have z4:=zq.mul zq
 have z5:=z4.mul zr
 rw [←Sg.make_same] at h6
 have hr0:¬Sg.sgq r<0:=by rcases Sg.sgq_three r with ⟨e,_⟩ | ⟨_,e⟩ | ⟨_,e⟩<;>first | exact absurd e h0 | (rw [e];decide)
 have hr1:0≤Sg.sgq r:=by omega
 have C5:=Lib.hid (fun V (hb:Below w.heap.size w V)=>sum_f hp h5 (zp.up (by omega)) (z5.up (by omega)) (Sg.sgq q) h6 V (hE.next hb))
 have C1:=kn w (sign_z hr)
 have C3:=ke hE (mul_z hq hq h4 (zq.up (by omega)) (zq.up (by omega)))
 have C4:=ke hE (mul_z h4 hr h5 (z4.up (by omega)) (zr.up (by omega)))
 have C2:=kn w (sign_z hq)
 have U1:Hid (∀ {p:Prop} (h:p:=by ((fail_if_success (go_not_at_region 3));(fail_if_success (have:=hLL));obtain ⟨LL,hLL⟩:=lexi X.out;go_cut [8] (fun s0 wx=>∃ g0,s0=.pointer (some ⟨g0,0,none⟩)∧Sb w (LL++[(g0,#[.bool b5,.string m5,.bool false,.string k5],25)]) [] wx);all_goals exact wkc)),p):=@fun _ h=>h
 have RS:=Lib.hid Tryz.results27
 clear hp hq hr h0 zp zq zr h6 h4 h5 z4 z5 hE
 go_enter Tryz.func27,Tryz.ntmps27
 exact wk0

set_option maxHeartbeats 8000000 in
set_option maxRecDepth 100000 in
theorem rshift_f {x:Sg.Rl} {r:Rat} {b1 c1 s1:Bool} {m1 k1 n1 l1:ByteArray} {b2 b3:Bool} {m2 k2 m3 k3:ByteArray} (hx:Rv x b1 m1 k1 c1 n1 l1 s1) (hr:Rq r b2 m2 k2) (h3:Rq (x.p+r) b3 m3 k3) (zx:Rz 5000 x) (zr:Sz 5000 r) (w:World) (hE:Env w) :
  Calls Tryz.prog 44 #[.agg #[.bool b1,.string m1,.bool false,.string k1,.bool c1,.string n1,.bool false,.string l1,.bool s1],.agg #[.bool b2,.string m2,.bool false,.string k2]] w (RetB w (.agg #[.bool b3,.string m3,.bool false,.string k3,.bool c1,.string n1,.bool false,.string l1,.bool s1])):=by
 have C1:=ke hE (add_z hx.p hr h3 (zx.p.up (by omega)) (zr.up (by omega)))
 have RS:=Lib.hid Tryz.results44
 clear hx hr h3 zx zr hE
 go_enter Tryz.func44,Tryz.ntmps44
 exact wk0
end Go.Proofs.YtpnokfgplnmjpaaGreatDoor


namespace Go.Proofs.YtpnokfgplnmjpaaGreatDoor
open Go.RowKit
attribute [local go_sem ↓] Go.wp_at_zero Go.wp_at_succ

theorem inv_ne {q:Rat} (h:q≠0):1 / q≠0:=by
 intro e
 have h1:q*(1 / q)=1:=by grind
 rw [e] at h1
 grind
theorem Sz.inv {n:Nat} {q:Rat} (h:Sz n q):Sz (n+1) (1 / q):=by
 have e:(1:Rat) / q=q⁻¹:=by grind
 rw [e]
 have h1:=h.1
 have h2:=h.2
 have h3:=Rat.num_inv q
 have h4:=Rat.den_inv q
 have hm:256^n<256^(n+1):=by rw [Nat.pow_succ];have:=Nat.pow_pos (a:=256) (n:=n) (by decide);omega
 have hp:=Nat.pow_pos (a:=256) (n:=n) (by decide)
 refine ⟨?_,?_⟩
 · rw [h3,Int.natAbs_mul]
   rcases Int.lt_trichotomy q.num 0 with h | h | h
   · rw [Int.sign_eq_neg_one_of_neg h];simp;omega
   · rw [h];simp;omega
   · rw [Int.sign_eq_one_of_pos h];simp;omega
 · rw [h4]
   split
   · omega
   · omega

set_option maxHeartbeats 8000000 in
set_option maxRecDepth 100000 in
theorem rscale_irr {x:Sg.Rl} {r:Rat} {b1 c1 s1:Bool} {m1 k1 n1 l1:ByteArray} {b2 b3 b4:Bool} {m2 k2 m3 k3 m4 k4:ByteArray} (hx:Rv x b1 m1 k1 c1 n1 l1 s1) (hx0:x.a≠0) (hr:Rq r b2 m2 k2) (hr0:r≠0) (h3:Rq (x.p*r) b3 m3 k3) (h4:Rq (x.a*(r*r)) b4 m4 k4) (zx:Rz 4000 x) (zr:Sz 2000 r) (w:World) (hE:Env w) :
  Calls Tryz.prog 45 #[.agg #[.bool b1,.string m1,.bool false,.string k1,.bool c1,.string n1,.bool false,.string l1,.bool s1],.agg #[.bool b2,.string m2,.bool false,.string k2]] w (RetB w (.agg #[.bool b3,.string m3,.bool false,.string k3,.bool b4,.string m4,.bool false,.string k4,.bool (s1 != decide (Sg.sgq r<0))])):=by
 obtain ⟨b5,m5,k5,h5⟩:=Rq.some_ (r*r)
 have z5:=zr.mul zr
 have hs0:¬Sg.sgq r=0:=by rcases Sg.sgq_three r with ⟨_,e⟩ | ⟨e,_⟩ | ⟨_,e⟩<;>first | exact absurd e hr0 | (rw [e];decide)
 have C1:=kn w (isRat_no hx hx0)
 have C2:=kn w (sign_z hr)
 have C3:=ke hE (mul_z hr hr h5 (zr.up (by omega)) (zr.up (by omega)))
 have C4:=ke hE (mul_z hx.p hr h3 (zx.p.up (by omega)) (zr.up (by omega)))
 have C5:=ke hE (mul_z hx.r h5 h4 (zx.r.up (by omega)) (z5.up (by omega)))
 have E1:Hid (∀ {p:Prop} (h:p:=by exact bodyPost_ret (v:=.agg #[.bool b3,.string m3,.bool false,.string k3,.bool b4,.string m4,.bool false,.string k4,.bool (s1 != decide (Sg.sgq r<0))]) (by simp [results,Tryz.results45,go_sem,F]<;>(cases s1<;>cases decide (Sg.sgq r<0)<;>rfl)) rfl ⟨rfl,X.out.bel⟩),p):=@fun _ h=>h
 have RS:=Lib.hid Tryz.results45
 clear hx hx0 hr hr0 h3 h4 h5 z5 zx zr hE
 go_enter Tryz.func45,Tryz.ntmps45
 exact wk0

set_option maxHeartbeats 8000000 in
set_option maxRecDepth 100000 in
theorem rinv_0  (w:World) :
  Calls Tryz.prog 50 #[.agg #[.bool false,.string ⟨#[]⟩,.bool false,.string ⟨#[]⟩,.bool false,.string ⟨#[]⟩,.bool false,.string ⟨#[]⟩,.bool false]] w (RetB w (.tuple #[.agg #[.bool false,.string ⟨#[]⟩,.bool false,.string ⟨#[]⟩,.bool false,.string ⟨#[]⟩,.bool false,.string ⟨#[]⟩,.bool false],.int .i64 6])):=by
 have RS:=Lib.hid Tryz.results50
 go_enter Tryz.func50,Tryz.ntmps50
 exact wk0

set_option maxHeartbeats 8000000 in
set_option maxRecDepth 100000 in
theorem rinv_rat {p:Rat} {b1 b2:Bool} {m1 k1 m2 k2:ByteArray} (hp:Rq p b1 m1 k1) (hp0:p≠0) (h2:Rq (1 / p) b2 m2 k2) (zp:Sz 5000 p) (w:World) (hE:Env w) :
  Calls Tryz.prog 50 #[.agg #[.bool b1,.string m1,.bool false,.string k1,.bool false,.string ⟨#[]⟩,.bool false,.string ⟨#[]⟩,.bool false]] w (RetB w (.tuple #[.agg #[.bool b2,.string m2,.bool false,.string k2,.bool false,.string ⟨#[]⟩,.bool false,.string ⟨#[]⟩,.bool false],.int .i64 0])):=by
 have o1:=(show Rq 1 false ⟨#[1]⟩ ⟨#[]⟩ from ⟨by rw [←mag_one];exact enc_mag 1,by rw [show (1:Rat).den=1 from rfl];exact dm_one.symm⟩)
 have hn:=hp.ne hp0
 obtain ⟨e1,e2⟩:=str_ne hn
 have e3:=empty_no (size_pos hn)
 have z1:Sz 1 1:=⟨by decide,by decide⟩
 have hp1:p.num≠0:=fun e=>hp0 (Rat.num_eq_zero.1 e)
 have C1:=kn w (isRat_yes b1 false m1 k1)
 have C2:=kn w (rFromInt_f (x:=1) o1.num (by omega) (by omega))
 have C3:=ke hE (ratio_f o1 hp h2 hp1 (z1.up (by omega)) (zp.up (by omega)))
 have C4:=kn w (fromRat_any b2 m2 k2)
 have RS:=Lib.hid Tryz.results50
 clear hp hp0 h2 zp o1 hn z1 hp1 hE
 go_enter Tryz.func50,Tryz.ntmps50
 exact wk0

set_option maxHeartbeats 8000000 in
set_option maxRecDepth 100000 in
theorem rinv_irr {x:Sg.Rl} {m:Rat} {b1 s1:Bool} {m1 k1 n1 l1:ByteArray} {b3 b4:Bool} {m3 k3 m4 k4:ByteArray} (hx:Rv x b1 m1 k1 false n1 l1 s1) (hx0:x.a≠0) (hm:m=1 / (x.p*x.p-x.a)) (hm0:x.p*x.p-x.a≠0) (h3:Rq (x.p*m) b3 m3 k3) (h4:Rq (x.a*(m*m)) b4 m4 k4) (zx:Rz 600 x) (w:World) (hE:Env w) :
  Calls Tryz.prog 50 #[.agg #[.bool b1,.string m1,.bool false,.string k1,.bool false,.string n1,.bool false,.string l1,.bool s1]] w (RetB w (.tuple #[.agg #[.bool b3,.string m3,.bool false,.string k3,.bool b4,.string m4,.bool false,.string k4,.bool ((!s1) != decide (Sg.sgq m<0))],.int .i64 0])):=by
 have o1:=(show Rq 1 false ⟨#[1]⟩ ⟨#[]⟩ from ⟨by rw [←mag_one];exact enc_mag 1,by rw [show (1:Rat).den=1 from rfl];exact dm_one.symm⟩)
 have hn:=hx.r.ne hx0
 obtain ⟨e1,e2⟩:=str_ne hn
 have e3:=empty_no (size_pos hn)
 have z1:Sz 1 1:=⟨by decide,by decide⟩
 obtain ⟨b5,m5,k5,h5⟩:=Rq.some_ (x.p*x.p-x.a)
 obtain ⟨b6,m6,k6,h6⟩:=Rq.some_ m
 have z5:Sz 1801 (x.p*x.p-x.a):=(zx.p.mul zx.p).sub zx.r
 have z6:Sz 1802 m:=by rw [hm];exact z5.inv
 have hp1:(x.p*x.p-x.a).num≠0:=fun e=>hm0 (Rat.num_eq_zero.1 e)
 have hm1:m≠0:=by rw [hm];exact inv_ne hm0
 have hc:Rv (⟨x.p,x.a,if s1 then 1 else -1⟩:Sg.Rl) b1 m1 k1 false n1 l1 (!s1):=⟨hx.p,hx.r,by cases s1<;>simp⟩
 have zc:Rz 600 (⟨x.p,x.a,if s1 then 1 else -1⟩:Sg.Rl):=⟨zx.p,zx.r⟩
 have C5:=Lib.hid (fun V (hb:Below w.heap.size w V)=>rscale_irr hc hx0 h6 hm1 h3 h4 ⟨zx.p.up (by omega),zx.r.up (by omega)⟩ (z6.up (by omega)) V (hE.next hb))
 have C1:=kn w (isRat_no hx hx0)
 have C2:=kn w (rFromInt_f (x:=1) o1.num (by omega) (by omega))
 have C3:=ke hE (norm_f hx h5 ⟨zx.p.up (by omega),zx.r.up (by omega)⟩)
 have C4:=ke hE (ratio_f o1 h5 (by rw [←hm];exact h6) hp1 (z1.up (by omega)) (z5.up (by omega)))
 have RS:=Lib.hid Tryz.results50
 clear hx hx0 hm hm0 h3 h4 zx o1 hn z1 h5 h6 z5 z6 hp1 hm1 hc zc hE
 go_enter Tryz.func50,Tryz.ntmps50
 exact wk0
end Go.Proofs.YtpnokfgplnmjpaaGreatDoor


namespace Go.Proofs.YtpnokfgplnmjpaaGreatDoor
open Go.RowKit
attribute [local go_sem ↓] Go.wp_at_zero Go.wp_at_succ

theorem Sz.by_ {n m:Nat} {p q:Rat} (hp:Sz n p) (hq:Sz m q):Sz (n+(m+1)) (p / q):=by
 have e:p / q=p*(1 / q):=by grind
 rw [e]
 exact hp.mul hq.inv
theorem Sb.last {w W:World} {l:List (Nat×Array Value×TypeId)} {rs:List (Option Addr×Nat×Nat×Nat)} {g:Nat} {cs:Array Value} {T:TypeId} (h:Sb w (l++[(g,cs,T)]) rs W):w.heap.size≤g∧W.heap[g]?=some (.cells cs T (0,0)) :=
 ⟨h.lo (g,cs,T) (by simp),h.k (g,cs,T) (by simp)⟩
def RetLs (w:World) (cs:Array Value) (T:TypeId) (n:Nat) (e:Ending) (w':World):Prop:=∃ g,e=.returned (.tuple #[.slice (some ⟨g,0,none⟩) n n,.int .i64 0])∧w.heap.size≤g∧w'.heap[g]?=some (.cells cs T (0,0))∧Below w.heap.size w w'

set_option maxHeartbeats 8000000 in
set_option maxRecDepth 100000 in
theorem roots_two_false {q1 q2 q3 p:Rat} {b1 b2:Bool} {m1 k1 m2 k2:ByteArray} {m3 k3:ByteArray} {b10 c10 s10 b11 c11 s11:Bool} {m10 k10 n10 l10 m11 k11 n11 l11:ByteArray} (h1:Rq q1 b1 m1 k1) (h2:Rq q2 b2 m2 k2) (h3:Rq q3 false m3 k3) (h30:q3≠0) (z1q:Sz 100 q1) (z2q:Sz 100 q2) (z3q:Sz 100 q3) (hp:p=-q2 / (2*q3)) (hpos:0<p*p-q1 / q3) (h10:Rv (Sg.sumP p (-1) (p*p-q1 / q3)) b10 m10 k10 c10 n10 l10 s10) (h11:Rv (Sg.sumP p 1 (p*p-q1 / q3)) b11 m11 k11 c11 n11 l11 s11) (w:World) (hE:Env w) :
  Calls Tryz.prog 31 #[.agg #[.bool b1,.string m1,.bool false,.string k1,.bool b2,.string m2,.bool false,.string k2,.bool false,.string m3,.bool false,.string k3]] w (RetLs w #[.bool b10,.string m10,.bool false,.string k10,.bool c10,.string n10,.bool false,.string l10,.bool s10,.bool b11,.string m11,.bool false,.string k11,.bool c11,.string n11,.bool false,.string l11,.bool s11] 27 2):=by
 have hn:=h3.ne h30
 obtain ⟨u1,u2⟩:=str_ne hn
 have u3:=empty_no (size_pos hn)
 have h3n:q3.num≠0:=fun e=>h30 (Rat.num_eq_zero.1 e)
 obtain ⟨b4,m4,k4,h4⟩:=Rq.some_ (-q2)
 obtain ⟨b5,m5,k5,h5⟩:=Rq.some_ (2*q3)
 obtain ⟨b6,m6,k6,h6⟩:=Rq.some_ p
 obtain ⟨b7,m7,k7,h7⟩:=Rq.some_ (q1 / q3)
 obtain ⟨b8,m8,k8,h8⟩:=Rq.some_ (p*p)
 obtain ⟨b9,m9,k9,h9⟩:=Rq.some_ (p*p-q1 / q3)
 have e2:Rq 2 false ⟨#[2]⟩ ⟨#[]⟩:=⟨by rw [←mag_2];exact enc_mag 2,by rw [show (2:Rat).den=1 from rfl];exact dm_one.symm⟩
 have z2:Sz 1 2:=⟨by decide,by decide⟩
 have z5:=z2.mul z3q
 have h50:(2*q3).num≠0:=fun e=>by have:=Rat.num_eq_zero.1 e;grind
 have z4:Sz 100 (-q2):=z2q.minus
 have z6:Sz 202 p:=by rw [hp];exact z4.by_ z5
 have z7:Sz 201 (q1 / q3):=z1q.by_ z3q
 have z8:=z6.mul z6
 have z9:Sz 606 (p*p-q1 / q3):=z8.sub z7
 have C8:=Lib.hid (fun V (_:Below w.heap.size w V)=>sign_z h9 V)
 rw [Sg.sgq_pos hpos] at C8
 have C1:=kn w (ratNeg_f h2 h4)
 have C2:=kn w (rFromInt_f (x:=2) e2.num (by omega) (by omega))
 have C3:=ke hE (mul_z e2 h3 h5 (z2.up (by omega)) (z3q.up (by omega)))
 have C4:=ke hE (ratio_f h4 h5 (by rw [←hp];exact h6) h50 (z4.up (by omega)) (z5.up (by omega)))
 have C5:=ke hE (ratio_f h1 h3 h7 h3n (z1q.up (by omega)) (z3q.up (by omega)))
 have C6:=ke hE (mul_z h6 h6 h8 (z6.up (by omega)) (z6.up (by omega)))
 have C7:=ke hE (sub_z h8 h7 h9 (z8.up (by omega)) (z7.up (by omega)))
 have C9:=ke hE (sum_f h6 h9 (z6.up (by omega)) (z9.up (by omega)) (-1) h10)
 have C10:=ke hE (sum_f h6 h9 (z6.up (by omega)) (z9.up (by omega)) 1 h11)
 have U1:Hid (∀ {p:Prop} (h:p:=by ((fail_if_success (go_not_at_region 8));(fail_if_success (have:=hLL));obtain ⟨LL,hLL⟩:=lexi X.out;go_cut [5] (fun s0 wx=>∃ g0,s0=.pointer (some ⟨g0,0,none⟩)∧Sb w (LL++[(g0,#[.bool b6,.string m6,.bool false,.string k6],25)]) [] wx);all_goals exact wkc)),p):=@fun _ h=>h
 have U2:Hid (∀ {p:Prop} (h:p:=by ((fail_if_success (go_not_at_region 10));(fail_if_success (have:=hLL));obtain ⟨LL,hLL⟩:=lexi X.out;go_cut [7] (fun s0 wx=>∃ g0,s0=.pointer (some ⟨g0,0,none⟩)∧Sb w (LL++[(g0,#[.bool b9,.string m9,.bool false,.string k9],25)]) [] wx);all_goals exact wkc)),p):=@fun _ h=>h
 have E1:Hid (∀ {p:Prop} (h:p:=by exact bodyPost_ret (v:=.tuple #[.slice (some ⟨_,0,none⟩) 2 2,.int .i64 0]) (by simp [results,Tryz.results31,go_sem]<;>rfl) rfl ⟨_,rfl,X.out.last.1,X.out.last.2,X.out.bel⟩),p):=@fun _ h=>h
 clear h1 h2 h3 h30 z1q z2q z3q hp hpos h10 h11 hn h3n h4 h5 h6 h7 h8 h9 e2 z2 z5 h50 z4 z6 z7 z8 z9 hE
 go_enter Tryz.func31,Tryz.ntmps31
 go_upto_region 1 with fail
 refine gs1 (M:=fun W=>Code.wp _ _ _ _ W) (fun V X0=>?_)
 have X:=Lib.hid X0
 clear X0
 have F:=X.out.facts
 simp only [Facts,cellsAt,List.take_succ_cons,List.take_zero,Nat.reduceAdd,and_true,List.set_cons_succ,List.set_cons_zero,List.cons_append,List.nil_append] at F
 go_upto_region 2 with fail
 refine an X.out (fun V X0=>?_)
 replace X:=Lib.hid X0
 clear X0
 replace F:=X.out.facts
 simp only [Facts,cellsAt,List.take_succ_cons,List.take_zero,Nat.reduceAdd,and_true,List.set_cons_succ,List.set_cons_zero,List.cons_append,List.nil_append] at F
 obtain ⟨LL,hLL⟩:=lexi X.out
 go_cut [9] (fun s9 wx=>s9=.bool false∧Sb w LL [] wx)
 case first =>
  go_wp2_with fail
  all_goals (go_meet;subst hLL;exact ⟨rfl,X.out⟩)
 obtain ⟨rfl,hX⟩:=hcut
 subst hLL
 replace X:=Lib.hid hX
 clear hX
 replace F:=X.out.facts
 simp only [Facts,cellsAt,List.take_succ_cons,List.take_zero,Nat.reduceAdd,and_true,List.set_cons_succ,List.set_cons_zero,List.cons_append,List.nil_append] at F
 exact wk
end Go.Proofs.YtpnokfgplnmjpaaGreatDoor
