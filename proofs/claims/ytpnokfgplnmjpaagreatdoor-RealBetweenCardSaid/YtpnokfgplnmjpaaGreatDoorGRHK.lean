import Derived.Test.YtpnokfgplnmjpaaGreatDoorGPk
import Derived.Test.YtpnokfgplnmjpaaGreatDoorGRCA
import Derived.Test.YtpnokfgplnmjpaaGreatDoorGQW
import Derived.Test.YtpnokfgplnmjpaaGreatDoorGRTB
import Derived.Test.YtpnokfgplnmjpaaGreatDoorGSgT
import Derived.Test.YtpnokfgplnmjpaaGreatDoorGSgN
import Derived.Test.YtpnokfgplnmjpaaGreatDoorGRGD
import Derived.Test.YtpnokfgplnmjpaaGreatDoorGRHJ
set_option linter.unusedSimpArgs false
set_option linter.unusedVariables false
set_option maxRecDepth 100000
set_option maxHeartbeats 32000000
open Go.Lib (hid)
open Go.Proofs.Tryz (prog)
namespace Go.Proofs.YtpnokfgplnmjpaaGreatDoor
open Go.RowKit
attribute [local go_sem ↓] Go.wp_at_zero Go.wp_at_succ
section
variable {w W:World} {l:List (Nat×Array Value×TypeId)} {rs:List (Option Addr×Nat×Nat×Nat)} {g:Nat} {T:TypeId}
theorem Sb.c5 (h:Sb w l rs W) {i:Nat} {x0 x1 x2 x3 x4:Value} (hl:l[i]?=some (g,#[x0,x1,x2,x3,x4],T)):W.cell? ⟨g,0,none⟩=some x0∧W.cell? ⟨g,1,none⟩=some x1∧W.cell? ⟨g,2,none⟩=some x2∧W.cell? ⟨g,3,none⟩=some x3∧W.cell? ⟨g,4,none⟩=some x4:=blk5 (h.at hl)
theorem Sb.f5 (h:Sb w l rs W) {i:Nat} {x0 x1 x2 x3 x4:Value} (hl:l[i]?=some (g,#[x0,x1,x2,x3,x4],T)):W.frozen? ⟨g,0,none⟩=false∧W.frozen? ⟨g,1,none⟩=false∧W.frozen? ⟨g,2,none⟩=false∧W.frozen? ⟨g,3,none⟩=false∧W.frozen? ⟨g,4,none⟩=false:=fro5 (h.at hl)
theorem Sb.set5 (h:Sb w l rs W) {i:Nat} {x0 x1 x2 x3 x4:Value} (hl:l[i]?=some (g,#[x0,x1,x2,x3,x4],T)) (a b c d e:Value):Sb w (l.set i (g,#[a,b,c,d,e],T)) rs (((((W.setCell ⟨g,0,none⟩ a).setCell ⟨g,1,none⟩ b).setCell ⟨g,2,none⟩ c).setCell ⟨g,3,none⟩ d).setCell ⟨g,4,none⟩ e) :=
 h.put hl (Bq.self5 ⟨h.k _ (List.mem_of_getElem? hl),h.lt (List.mem_of_getElem? hl)⟩ a b c d e).k (fun k hk=>qoth5 hk a b c d e) (Nat.le_of_eq (qsz5 a b c d e).symm) ((below_set4 (Below.refl _ _) (h.lo _ (List.mem_of_getElem? hl)) a b c d).setCell (h.lo _ (List.mem_of_getElem? hl)) e)
end
theorem bneg_f {b b2 c o:Bool} {m m2 k:ByteArray} (hn:∀ V,Calls prog 107 #[.agg #[.bool b,.string m]] V (RetB V (.agg #[.bool b2,.string m2]))) (w:World) :
  Calls prog 160 #[.agg #[.bool b,.string m,.bool c,.string k,.bool o]] w (RetB w (.agg #[.bool b2,.string m2,.bool c,.string k,.bool o])):=by
 have HN:=hid hn;have X:=hid (((Sb.start w).new #[.bool b,.string m,.bool c,.string k,.bool o] 147).new #[.bool false,.string ⟨#[]⟩,.bool false,.string ⟨#[]⟩,.bool false] 147);have X:=hid (X.out.pick [0,1] [(w.heap.size,#[.bool b,.string m,.bool c,.string k,.bool o],147),(w.heap.size+1,#[.bool false,.string ⟨#[]⟩,.bool false,.string ⟨#[]⟩,.bool false],147)] [] (by simp) dc (by simp));clear hn;go_enter Tryz.func160,Tryz.ntmps160;go_upto_region 1 with fail
 refine wp_region_late (S:=fun w'=>(w'.cell? ⟨w.heap.size,0,none⟩=some (.bool b)∧w'.cell? ⟨w.heap.size,1,none⟩=some (.string m)∧w'.cell? ⟨w.heap.size,2,none⟩=some (.bool c)∧w'.cell? ⟨w.heap.size,3,none⟩=some (.string k)∧w'.cell? ⟨w.heap.size,4,none⟩=some (.bool o))) (L:=[]) kx ?_;have X:=hid X.out.drew;obtain ⟨V0,hV⟩:=wexi X.out;rw [←hV] at X ⊢;clear hV;refine tk (i:=0) (oi:=⟨some 3,_,_,_,_,_⟩) (v:=_) rfl kx ix (X.out.c5 (i:=0) rfl) sl ?_;try simp only [Act.put,seti,set0,setS]
 refine tk (i:=1) (oi:=⟨some 4,_,_,_,_,_⟩) (v:=_) rfl kx ix (X.out.c5 (i:=0) rfl) sl ?_;try simp only [Act.put,seti,set0,setS]
 refine tk (i:=3) (oi:=⟨some 6,_,_,_,_,_⟩) (v:=_) rfl kx ix (X.out.c5 (i:=0) rfl) sl ?_;try simp only [Act.put,seti,set0,setS]
 refine tk (i:=4) (oi:=⟨some 7,_,_,_,_,_⟩) (v:=_) rfl kx ix (X.out.c5 (i:=0) rfl) sl ?_;try simp only [Act.put,seti,set0,setS]
 refine tk (i:=5) (oi:=⟨some 8,_,_,_,_,_⟩) (v:=_) rfl kx ix (X.out.c5 (i:=0) rfl) sl ?_;try simp only [Act.put,seti,set0,setS]
 refine tk (i:=6) (oi:=⟨some 9,_,_,_,_,_⟩) (v:=_) rfl kx ix (X.out.c5 (i:=0) rfl) sl ?_;try simp only [Act.put,seti,set0,setS]
 refine wpLate_one (i:=2) (o:=⟨some 5,_,_,_,_,_⟩) kx rfl (fun K hK=>?_);go_simp
 (go_at_call 107;refine (HN.out _).mono ?_;rintro e u1 ⟨rfl,hb9⟩;have X:=hid (X.out.next hb9);clear hb9)
 try go_wp2_with fail
 refine hK.out _ _ (Or.inr (fun _=>X.out.c5 (i:=0) rfl)) ?_;clear hK K;try simp only [Act.put,seti,set0,setS]
 refine tk (i:=7) (oi:=⟨some 10,_,_,_,_,_⟩) (v:=_) rfl kx ix (X.out.c5 (i:=0) rfl) sl ?_;try simp only [Act.put,seti,set0,setS]
 refine wpLate_one (i:=8) (o:=⟨none,_,_,_,_,_⟩) kx rfl (fun K hK=>?_);obtain ⟨x0,x1,x2,x3,x4⟩:=X.out.c5 (i:=1) rfl;obtain ⟨y0,y1,y2,y3,y4⟩:=X.out.f5 (i:=1) rfl;have X:=hid (X.out.set5 (i:=1) rfl (.bool b2) (.string m2) (.bool c) (.string k) (.bool o));go_simp;refine hK.out _ _ (Or.inr (fun _=>X.out.c5 (i:=0) rfl)) ?_;clear hK K x0 x1 x2 x3 x4 y0 y1 y2 y3 y4;try simp only [Act.put,seti,set0,setS]
 obtain ⟨W2,hV⟩:=wexi X.out;rw [←hV] at X ⊢;clear hV;refine wpLate_done kx ?_ _;go_wp2
 obtain ⟨p0,p1,p2,p3,p4⟩:=X.out.c5 (i:=1) rfl;exact bodyPost_ret (v:=.agg #[.bool b2,.string m2,.bool c,.string k,.bool o]) (by simp [results,Tryz.results160,go_sem,p0,p1,p2,p3,p4]) rfl ⟨rfl,X.out.bel⟩
def voidB (z:Int) (oa ob:Bool):Bool:=decide (0<z) || (decide (z=0) && (oa || ob))
def zeroB (sa sb:Int) (oa ob:Bool):Bool:=(decide (sa<0) || (decide (sa=0) && !oa)) && (decide (0<sb) || (decide (sb=0) && !ob))
def RetSx (w:World) (p q:Rat) (oa ob:Bool) (e:Ending) (w':World):Prop :=
 (voidB (cmpQ p q) oa ob=true∧RetB w (.tuple #[.agg #[.bool false,.string ⟨#[]⟩,.bool false,.string ⟨#[]⟩],.int .i64 10]) e w') ∨
 (voidB (cmpQ p q) oa ob=false∧zeroB p.num.sign q.num.sign oa ob=true∧RetB w (.tuple #[.agg #[.bool false,.string ⟨#[]⟩,.bool false,.string ⟨#[]⟩],.int .i64 0]) e w') ∨
 (voidB (cmpQ p q) oa ob=false∧zeroB p.num.sign q.num.sign oa ob=false∧p.num.sign<0∧∃ n m,RetB w (.tuple #[.agg #[.bool (decide (0<n)),.string (mag n),.bool false,.string (dm m)],.int .i64 0]) e w'∧Simp q.num.natAbs q.den ob p.num.natAbs p.den oa n m) ∨
 (voidB (cmpQ p q) oa ob=false∧zeroB p.num.sign q.num.sign oa ob=false∧¬p.num.sign<0∧∃ n m,RetB w (.tuple #[.agg #[.bool false,.string (mag n),.bool false,.string (dm m)],.int .i64 0]) e w'∧Simp p.num.natAbs p.den oa q.num.natAbs q.den ob n m)
theorem void_not {z:Int} {oa ob:Bool} (h:voidB z oa ob=false) (h3:z=-1∨z=0∨z=1):z=-1∨(z=0∧oa=false∧ob=false):=by
 unfold voidB at h;rcases h3 with rfl | rfl | rfl
 · exact .inl rfl
 · cases oa<;>cases ob<;>simp at h ⊢
 · simp at h
theorem zero_not {sa sb:Int} {oa ob:Bool} (h:zeroB sa sb oa ob=false) (h1:sa<0) (hb:sb=-1∨sb=0∨sb=1):sb≤0:=by
 unfold zeroB at h;rcases hb with rfl | rfl | rfl
 · decide
 · decide
 · simp [h1] at h
theorem sign_three (x:Int):x.sign=-1∨x.sign=0∨x.sign=1:=by
 rcases Int.lt_trichotomy x 0 with h | h | h
 · exact .inl (Int.sign_eq_neg_one_of_neg h)
 · exact .inr (.inl (by rw [h];rfl))
 · exact .inr (.inr (Int.sign_eq_one_of_pos h))
theorem cmp3 (p q:Rat):cmpQ p q=-1∨cmpQ p q=0∨cmpQ p q=1:=by
 exact k118
theorem cmp_cross {p q:Rat} (h:cmpQ p q=0):p.num*(q.den:Int)=q.num*(p.den:Int):=by
 unfold cmpQ cmpZ at h
 split at h
 · cases h
 · split at h
   · cases h
   · omega
theorem inn_some {a b c d:Nat} (hb:0<b) {oa ob:Bool} (h:a*d<c*b∨(a*d=c*b∧oa=false∧ob=false)):∃ x y,Inn a b oa c d ob x y∧x≤a+c∧y≤b+d:=by
 rcases h with h | ⟨h,rfl,rfl⟩
 · exact ⟨_,_,inn_mid hb h oa ob,Nat.le_refl _,Nat.le_refl _⟩
 · exact ⟨a,b,⟨hb,.inr ⟨rfl,rfl⟩,.inr ⟨h,rfl⟩⟩,Nat.le_add_right _ _,Nat.le_add_right _ _⟩
theorem simplest_any {a b c d:Nat} (hb:0<b) {oa ob:Bool} (h:a*d<c*b∨(a*d=c*b∧oa=false∧ob=false)) (s1:nd a≤2000) (s2:nd b≤2000) (s3:nd c≤2000) (s4:nd d≤2000) (w:World) (hE:Env w) :
  Calls prog 159 #[.agg #[.bool false,.string (mag a),.bool false,.string (mag b),.bool oa],.agg #[.bool false,.string (mag c),.bool false,.string (mag d),.bool ob]] w (RetSm w a b oa c d ob):=by
 obtain ⟨x,y,hi,hx,hy⟩:=inn_some hb h;have h1:=nd_mono hx;have h2:=nd_mono hy;have h3:=nd_add a c;have h4:=nd_add b d;unfold nd at *;exact simplest_ih (simpFuel a b c d+1) a b oa c d ob x y w om hb hi om om om om om om hE
theorem neg_letters {n m:Nat} (hc:Nat.gcd n m=1) (hm:0<m) (w:World) :
  Calls prog 80 #[.agg #[.bool false,.string (mag n),.bool false,.string (dm m)]] w (RetB w (.agg #[.bool (decide (0<n)),.string (mag n),.bool false,.string (dm m)])):=by
 have h1:Rq (mkRat (sgn false n) m) false (mag n) (dm m):=Rq.of_mk hm (by rw [hc,Nat.div_one];exact enc_mag n) (by rw [hc,Nat.div_one])
 have hn:(mkRat (sgn false n) m).num=(n:Int):=by
  have h2:=enc_sgn h1.num;rw [bval_mag] at h2;rw [←h2];rfl
 refine ratNeg_f h1 ⟨?_,?_⟩ w
 · exact k94
 · rw [Rat.neg_den];exact h1.den
theorem simplest_gen {p q:Rat} {ba bb:Bool} {ma mb ka kb:ByteArray} (hp:Rq p ba ma ka) (hq:Rq q bb mb kb) (oa ob:Bool) (s1:ma.size≤2000) (s2:mb.size≤2000) (s3:(mag p.den).size≤2000) (s4:(mag q.den).size≤2000) (w:World) (hE:Env w) :
  Calls prog 108 #[.agg #[.bool ba,.string ma,.bool false,.string ka],.agg #[.bool bb,.string mb,.bool false,.string kb],.bool oa,.bool ob] w (RetSx w p q oa ob):=by
 have ks:∀ {x:Rat} {b:Bool} {m k:ByteArray},Rq x b m k→(mag x.den).size≤2000→k.size≤2000:=fun {x b m k} h hs=>by
  exact k43
 have s5:=ks hp s3;have s6:=ks hq s4;have HC1:=hid (fun V (hV:Env V)=>ratCheck_f hp om om V hV);have HC2:=hid (fun V (hV:Env V)=>ratCheck_f hq om om V hV);have HD1:=hid (fun V (hV:Env V)=>den_f hp V hV);have HD2:=hid (fun V (hV:Env V)=>den_f hq V hV);have HCM:=hid (fun V (hV:Env V)=>ratCompare_f hp hq om om om om V hV);have HS1:=hid (fun V=>ratSign_f hp V);have HS2:=hid (fun V=>ratSign_f hq V);have HZ3:=hid (cmp3 p q);have HA3:=hid (sign_three p.num);have HB3:=hid (sign_three q.num);have hm1:=hp.mag.2;have hm2:=hq.mag.2;have n1:nd p.num.natAbs≤2000:=by unfold nd;rw [←hm1];exact s1
 have n2:nd q.num.natAbs≤2000:=by unfold nd;rw [←hm2];exact s2
 have g1:=sgn3 p.num (d:=1) om;have g2:=sgn3 q.num (d:=1) om;have hlt:cmpQ p q=-1→p.num*(q.den:Int)<q.num*(p.den:Int):=fun h=>cmpZ_neg h
 have heq:cmpQ p q=0→p.num*(q.den:Int)=q.num*(p.den:Int):=cmp_cross;have dp:=p.den_pos;have dq:=q.den_pos
 have hsp:voidB (cmpQ p q) oa ob=false→¬p.num.sign<0→p.num.natAbs*q.den<q.num.natAbs*p.den∨(p.num.natAbs*q.den=q.num.natAbs*p.den∧oa=false∧ob=false):=fun h h0=>by
  have e1:p.num=(p.num.natAbs:Int):=om;rcases void_not h (cmp3 p q) with hz | ⟨hz,o1,o2⟩
  · have h1:=hlt hz;have h5:0≤p.num*(q.den:Int):=Int.mul_nonneg om om
    have e2:q.num=(q.num.natAbs:Int):=by
     have h6:0<q.num:=by
      rcases Int.lt_or_le 0 q.num with h7 | h7
      · exact h7
      · have h8:=Int.mul_nonneg (show 0≤-q.num by omega) (show (0:Int)≤(p.den:Int) by omega);rw [Int.neg_mul] at h8;omega
     omega
    rw [e1,e2,←Int.natCast_mul,←Int.natCast_mul] at h1;exact .inl (Int.ofNat_lt.1 h1)
  · have h1:=congrArg Int.natAbs (heq hz);rw [Int.natAbs_mul,Int.natAbs_mul,Int.natAbs_natCast,Int.natAbs_natCast] at h1;exact .inr ⟨h1,o1,o2⟩
 have hsn:voidB (cmpQ p q) oa ob=false→zeroB p.num.sign q.num.sign oa ob=false→p.num.sign<0→q.num≤0∧(q.num.natAbs*p.den<p.num.natAbs*q.den∨(q.num.natAbs*p.den=p.num.natAbs*q.den∧ob=false∧oa=false)):=fun h h8 h0=>by
  have hq0:=zero_not h8 h0 (sign_three q.num);refine ⟨om,?_⟩;have e1:p.num=-(p.num.natAbs:Int):=om;have e2:q.num=-(q.num.natAbs:Int):=om;rcases void_not h (cmp3 p q) with hz | ⟨hz,o1,o2⟩
  · have h1:=hlt hz;rw [e1,e2,Int.neg_mul,Int.neg_mul,←Int.natCast_mul,←Int.natCast_mul] at h1;exact .inl om
  · have h1:=congrArg Int.natAbs (heq hz);rw [Int.natAbs_mul,Int.natAbs_mul,Int.natAbs_natCast,Int.natAbs_natCast] at h1;exact .inr ⟨h1.symm,o2,o1⟩
 have HSP:=hid (fun (h:voidB (cmpQ p q) oa ob=false) (h0:¬p.num.sign<0) V (hV:Env V)=>simplest_any dp (hsp h h0) n1 s3 n2 s4 V hV);have HSQ:=hid (fun (h:voidB (cmpQ p q) oa ob=false) (h8:zeroB p.num.sign q.num.sign oa ob=false) (h0:p.num.sign<0) V (hV:Env V)=>simplest_any dq (hsn h h8 h0).2 n2 s4 n1 s3 V hV);have HBA:=hid (fun (h0:¬p.num.sign<0)=>show false=ba from by rw [hp.mag.1];exact (decide_eq_false om).symm)
 have HBB:=hid (fun (h:voidB (cmpQ p q) oa ob=false) (h0:¬p.num.sign<0)=>show false=bb from by
  rw [hq.mag.1];refine (decide_eq_false ?_).symm;intro h9;have h5:0≤p.num*(q.den:Int):=Int.mul_nonneg om om;have h8:=Int.mul_pos (show 0 < -q.num by omega) (show (0:Int)<(p.den:Int) by omega);rw [Int.neg_mul] at h8;rcases void_not h (cmp3 p q) with hz | ⟨hz,_,_⟩
  · have:=hlt hz;omega
  · have:=heq hz;omega)
 have HB1:=hid (fun (h0:p.num.sign<0)=>bneg_f (c:=false) (o:=oa) (k:=mag p.den) (fun V=>negate_f (c:=false) (k:=ma) hp.num (by
  rw [hm1];have e:-p.num=(p.num.natAbs:Int):=om;rw [e];exact enc_mag _) V))
 have HB2:=hid (fun (h:voidB (cmpQ p q) oa ob=false) (h8:zeroB p.num.sign q.num.sign oa ob=false) (h0:p.num.sign<0)=>bneg_f (c:=false) (o:=ob) (k:=mag q.den) (fun V=>negate_f (c:=false) (k:=mb) hq.num (by
  have h1:=(hsn h h8 h0).1;rw [hm2];have e:-q.num=(q.num.natAbs:Int):=om;rw [e];exact enc_mag _) V))
 have HCP:=hid (fun n m V (hV:Env V)=>coprime_f false (mag n) m V hV);have HNG:=hid (fun n m (hs:Simp q.num.natAbs q.den ob p.num.natAbs p.den oa n m) V=>neg_letters hs.cop hs.inn.1 V);have HE:=hid (fun V (h:Below w.heap.size w V)=>hE.next h);rw [←hm1,←hm2] at HSP HSQ;have HF1:=hid (fun (h:voidB (cmpQ p q) oa ob=true) (e:Ending) (w':World) (hr:RetB w (.tuple #[.agg #[.bool false,.string ⟨#[]⟩,.bool false,.string ⟨#[]⟩],.int .i64 10]) e w')=>show RetSx w p q oa ob e w' from .inl ⟨h,hr⟩);have HF2:=hid (fun (h:voidB (cmpQ p q) oa ob=false) (h8:zeroB p.num.sign q.num.sign oa ob=true) (e:Ending) (w':World) (hr:RetB w (.tuple #[.agg #[.bool false,.string ⟨#[]⟩,.bool false,.string ⟨#[]⟩],.int .i64 0]) e w')=>show RetSx w p q oa ob e w' from .inr (.inl ⟨h,h8,hr⟩));have HF3:=hid (fun (h:voidB (cmpQ p q) oa ob=false) (h8:zeroB p.num.sign q.num.sign oa ob=false) (h0:p.num.sign<0) (n m:Nat) (hs:Simp q.num.natAbs q.den ob p.num.natAbs p.den oa n m) (e:Ending) (w':World) (hr:RetB w (.tuple #[.agg #[.bool (decide (0<n)),.string (mag n),.bool false,.string (dm m)],.int .i64 0]) e w')=>show RetSx w p q oa ob e w' from .inr (.inr (.inl ⟨h,h8,h0,n,m,hr,hs⟩)));have HF4:=hid (fun (h:voidB (cmpQ p q) oa ob=false) (h8:zeroB p.num.sign q.num.sign oa ob=false) (h0:¬p.num.sign<0) (n m:Nat) (hs:Simp p.num.natAbs p.den oa q.num.natAbs q.den ob n m) (e:Ending) (w':World) (hr:RetB w (.tuple #[.agg #[.bool false,.string (mag n),.bool false,.string (dm m)],.int .i64 0]) e w')=>show RetSx w p q oa ob e w' from .inr (.inr (.inr ⟨h,h8,h0,n,m,hr,hs⟩)));generalize RetSx w p q oa ob=PP at *;generalize p.num.natAbs=NA at *;generalize q.num.natAbs=NB at *;generalize hda:mag p.den=da at *;generalize hdb:mag q.den=db at *;generalize p.den=DA at *;generalize q.den=DB at *;generalize cmpQ p q=z at *;generalize p.num.sign=sa at *;generalize q.num.sign=sb at *;obtain ⟨e6,he6⟩:∃ e,e=voidB z oa ob:=⟨_,rfl⟩
 obtain ⟨e8,he8⟩:∃ e,e=zeroB sa sb oa ob:=⟨_,rfl⟩
 rw [←he6] at HSP HSQ HBB HB2 HF1 HF2 HF3 HF4;rw [←he8] at HSQ HB2 HF2 HF3 HF4;have HE6:=hid he6;have HE8:=hid he8;have X:=hid ((((Sb.start w).new #[.bool ba,.string ma,.bool false,.string ka] 25).new #[.bool bb,.string mb,.bool false,.string kb] 25).new #[.bool false,.string ⟨#[]⟩,.bool false,.string ⟨#[]⟩] 25);have X:=hid (X.out.pick [0,1,2] [(w.heap.size,#[.bool ba,.string ma,.bool false,.string ka],25),(w.heap.size+1,#[.bool bb,.string mb,.bool false,.string kb],25),(w.heap.size+1+1,#[.bool false,.string ⟨#[]⟩,.bool false,.string ⟨#[]⟩],25)] [] (by simp) dc (by simp));clear hp hq ks s1 s2 s3 s4 s5 s6 hm1 hm2 n1 n2 g1 g2 hlt heq dp dq hsp hsn hE hda hdb he6 he8;go_enter Tryz.func108,Tryz.ntmps108;obtain ⟨a0,a1,a2,a3⟩:=X.out.c4 (i:=0) rfl;go_wp2_with fail
 refine (HC1.out _ (HE.out _ X.out.bel)).mono ?_;rintro e u1 ⟨rfl,hb9⟩;have X:=hid (X.out.next hb9);clear hb9;clear a0 a1 a2 a3;obtain ⟨a0,a1,a2,a3⟩:=X.out.c4 (i:=1) rfl;go_wp2_with fail
 refine (HC2.out _ (HE.out _ X.out.bel)).mono ?_;rintro e u2 ⟨rfl,hb9⟩;have X:=hid (X.out.next hb9);clear hb9;clear a0 a1 a2 a3;go_upto_region 3 with fail
 go_cut [10,11] (fun s10 s11 wx=>∃ g10 g11,s10=.pointer (some ⟨g10,0,none⟩)∧s11=.pointer (some ⟨g11,0,none⟩)∧Sb w [(w.heap.size,#[.bool ba,.string ma,.bool false,.string ka],25),(w.heap.size+1,#[.bool bb,.string mb,.bool false,.string kb],25),(w.heap.size+1+1,#[.bool false,.string ⟨#[]⟩,.bool false,.string ⟨#[]⟩],25),(g10,#[.bool ba,.string ma,.bool false,.string da,.bool oa],147),(g11,#[.bool bb,.string mb,.bool false,.string db,.bool ob],147)] [] wx)
 case first =>
  clear HC1 HC2 HCM HS1 HS2 HZ3 HA3 HB3 HSP HSQ HBA HBB HB1 HB2 HCP HNG HF1 HF2 HF3 HF4 HE6 HE8;refine wp_region_late (S:=fun w'=>(w'.cell? ⟨w.heap.size,0,none⟩=some (.bool ba)∧w'.cell? ⟨w.heap.size,1,none⟩=some (.string ma)∧w'.cell? ⟨w.heap.size,2,none⟩=some (.bool false)∧w'.cell? ⟨w.heap.size,3,none⟩=some (.string ka))∧(w'.cell? ⟨w.heap.size+1,0,none⟩=some (.bool bb)∧w'.cell? ⟨w.heap.size+1,1,none⟩=some (.string mb)∧w'.cell? ⟨w.heap.size+1,2,none⟩=some (.bool false)∧w'.cell? ⟨w.heap.size+1,3,none⟩=some (.string kb))) (L:=[]) kx ?_;have X:=hid X.out.drew;obtain ⟨V0,hV⟩:=wexi X.out;rw [←hV] at X ⊢;clear hV;refine tk (i:=0) (oi:=⟨some 24,_,_,_,_,_⟩) (v:=_) rfl kx ix d01 sl ?_;try simp only [Act.put,seti,set0,setS]
  refine tk (i:=1) (oi:=⟨some 25,_,_,_,_,_⟩) (v:=_) rfl kx ix d01 sl ?_;try simp only [Act.put,seti,set0,setS]
  refine tk (i:=2) (oi:=⟨some 26,_,_,_,_,_⟩) (v:=_) rfl kx ix d01 sl ?_;try simp only [Act.put,seti,set0,setS]
  refine tk (i:=4) (oi:=⟨some 28,_,_,_,_,_⟩) (v:=_) rfl kx ix d01 sl ?_;try simp only [Act.put,seti,set0,setS]
  refine tk (i:=6) (oi:=⟨some 30,_,_,_,_,_⟩) (v:=_) rfl kx ix d01 sl ?_;try simp only [Act.put,seti,set0,setS]
  refine tk (i:=7) (oi:=⟨some 31,_,_,_,_,_⟩) (v:=_) rfl kx ix d01 sl ?_;try simp only [Act.put,seti,set0,setS]
  refine tk (i:=8) (oi:=⟨some 32,_,_,_,_,_⟩) (v:=_) rfl kx ix d01 sl ?_;try simp only [Act.put,seti,set0,setS]
  refine tk (i:=10) (oi:=⟨some 34,_,_,_,_,_⟩) (v:=_) rfl kx ix d01 sl ?_;try simp only [Act.put,seti,set0,setS]
  refine wpLate_three (i:=3) (j:=12) (k:=13) (o:=⟨some 27,_,_,_,_,_⟩) (o':=⟨some 10,_,_,_,_,_⟩) (o'':=⟨some 11,_,_,_,_,_⟩) kx rfl rfl rfl (fun K hK=>?_) (fun K hK=>?_) (fun K hK=>?_)
  · skip
    go_simp
    (go_at_call 94;refine (HD1.out _ (HE.out _ X.out.bel)).mono ?_;rintro e u1 ⟨rfl,hb9⟩;have X:=hid (X.out.next hb9);clear hb9)
    try go_wp2_with fail
    refine hK.out _ _ c01 ?_;clear hK K;try simp only [Act.put,seti,set0,setS]
    refine tk (i:=5) (oi:=⟨some 29,_,_,_,_,_⟩) (v:=_) rfl kx ix d01 sl ?_;try simp only [Act.put,seti,set0,setS]
    refine wpLate_three (i:=9) (j:=12) (k:=13) (o:=⟨some 33,_,_,_,_,_⟩) (o':=⟨some 10,_,_,_,_,_⟩) (o'':=⟨some 11,_,_,_,_,_⟩) kx rfl rfl rfl (fun K hK=>?_) (fun K hK=>?_) (fun K hK=>?_)
    · skip
      go_simp
      (go_at_call 94;refine (HD2.out _ (HE.out _ X.out.bel)).mono ?_;rintro e u2 ⟨rfl,hb9⟩;have X:=hid (X.out.next hb9);clear hb9)
      try go_wp2_with fail
      refine hK.out _ _ c01 ?_;clear hK K;try simp only [Act.put,seti,set0,setS]
      refine tk (i:=11) (oi:=⟨some 35,_,_,_,_,_⟩) (v:=_) rfl kx ix d01 sl ?_;try simp only [Act.put,seti,set0,setS]
      refine wpLate_two (i:=12) (j:=13) (o:=⟨some 10,_,_,_,_,_⟩) (o':=⟨some 11,_,_,_,_,_⟩) kx rfl rfl (fun K hK=>?_) (fun K hK=>?_);go_simp;have X:=hid (X.out.new #[.bool false,.string ⟨#[]⟩,.bool false,.string ⟨#[]⟩,.bool false] 147);refine hK.out _ _ c01 ?_;clear hK K;try simp only [Act.put,seti,set0,setS]
      obtain ⟨V3,hV⟩:=wexi X.out;rw [←hV] at X ⊢;clear hV;refine wpLate_one (i:=13) (o:=⟨some 11,_,_,_,_,_⟩) kx rfl (fun K hK=>?_);go_simp;have X:=hid (X.out.new #[.bool false,.string ⟨#[]⟩,.bool false,.string ⟨#[]⟩,.bool false] 147);refine hK.out _ _ c01 ?_;clear hK K;try simp only [Act.put,seti,set0,setS]
      obtain ⟨V4,hV⟩:=wexi X.out;rw [←hV] at X ⊢;clear hV;refine wpLate_one (i:=14) (o:=⟨none,_,_,_,_,_⟩) kx rfl (fun K hK=>?_);obtain ⟨x0,x1,x2,x3,x4⟩:=X.out.c5 (i:=3) rfl;obtain ⟨y0,y1,y2,y3,y4⟩:=X.out.f5 (i:=3) rfl;have X:=hid (X.out.set5 (i:=3) rfl (.bool ba) (.string ma) (.bool false) (.string da) (.bool oa));go_simp;refine hK.out _ _ c01 ?_;clear hK K x0 x1 x2 x3 x4 y0 y1 y2 y3 y4;try simp only [Act.put,seti,set0,setS]
      obtain ⟨W5,hV⟩:=wexi X.out;rw [←hV] at X ⊢;clear hV;refine wpLate_one (i:=15) (o:=⟨none,_,_,_,_,_⟩) kx rfl (fun K hK=>?_);obtain ⟨x0,x1,x2,x3,x4⟩:=X.out.c5 (i:=4) rfl;obtain ⟨y0,y1,y2,y3,y4⟩:=X.out.f5 (i:=4) rfl;have X:=hid (X.out.set5 (i:=4) rfl (.bool bb) (.string mb) (.bool false) (.string db) (.bool ob));go_simp;refine hK.out _ _ c01 ?_;clear hK K x0 x1 x2 x3 x4 y0 y1 y2 y3 y4;try simp only [Act.put,seti,set0,setS]
      obtain ⟨W6,hV⟩:=wexi X.out;rw [←hV] at X ⊢;clear hV;refine wpLate_done kx ?_ _;go_wp2_with fail
      go_meet;exact ⟨_,_,rfl,rfl,X.out.pick [0,1,2,3,4] _ [] rfl dc (by simp)⟩;go_simp;have X:=hid (X.out.new #[.bool false,.string ⟨#[]⟩,.bool false,.string ⟨#[]⟩,.bool false] 147);refine hK.out _ _ c01 ?_;clear hK K;try simp only [Act.put,seti,set0,setS]
      obtain ⟨V7,hV⟩:=wexi X.out;rw [←hV] at X ⊢;clear hV;refine wpLate_one (i:=12) (o:=⟨some 10,_,_,_,_,_⟩) kx rfl (fun K hK=>?_);go_simp;have X:=hid (X.out.new #[.bool false,.string ⟨#[]⟩,.bool false,.string ⟨#[]⟩,.bool false] 147);refine hK.out _ _ c01 ?_;clear hK K;try simp only [Act.put,seti,set0,setS]
      obtain ⟨V8,hV⟩:=wexi X.out;rw [←hV] at X ⊢;clear hV;refine wpLate_one (i:=14) (o:=⟨none,_,_,_,_,_⟩) kx rfl (fun K hK=>?_);obtain ⟨x0,x1,x2,x3,x4⟩:=X.out.c5 (i:=4) rfl;obtain ⟨y0,y1,y2,y3,y4⟩:=X.out.f5 (i:=4) rfl;have X:=hid (X.out.set5 (i:=4) rfl (.bool ba) (.string ma) (.bool false) (.string da) (.bool oa));go_simp;refine hK.out _ _ c01 ?_;clear hK K x0 x1 x2 x3 x4 y0 y1 y2 y3 y4;try simp only [Act.put,seti,set0,setS]
      obtain ⟨W9,hV⟩:=wexi X.out;rw [←hV] at X ⊢;clear hV;refine wpLate_one (i:=15) (o:=⟨none,_,_,_,_,_⟩) kx rfl (fun K hK=>?_);obtain ⟨x0,x1,x2,x3,x4⟩:=X.out.c5 (i:=3) rfl;obtain ⟨y0,y1,y2,y3,y4⟩:=X.out.f5 (i:=3) rfl;have X:=hid (X.out.set5 (i:=3) rfl (.bool bb) (.string mb) (.bool false) (.string db) (.bool ob));go_simp;refine hK.out _ _ c01 ?_;clear hK K x0 x1 x2 x3 x4 y0 y1 y2 y3 y4;try simp only [Act.put,seti,set0,setS]
      obtain ⟨W10,hV⟩:=wexi X.out;exact k31
    · skip
      go_simp;have X:=hid (X.out.new #[.bool false,.string ⟨#[]⟩,.bool false,.string ⟨#[]⟩,.bool false] 147);refine hK.out _ _ c01 ?_;clear hK K;try simp only [Act.put,seti,set0,setS]
      obtain ⟨V11,hV⟩:=wexi X.out;rw [←hV] at X ⊢;clear hV;refine wpLate_two (i:=9) (j:=13) (o:=⟨some 33,_,_,_,_,_⟩) (o':=⟨some 11,_,_,_,_,_⟩) kx rfl rfl (fun K hK=>?_) (fun K hK=>?_);go_simp
      (go_at_call 94;refine (HD2.out _ (HE.out _ X.out.bel)).mono ?_;rintro e u12 ⟨rfl,hb9⟩;have X:=hid (X.out.next hb9);clear hb9)
      try go_wp2_with fail
      refine hK.out _ _ c01 ?_;clear hK K;try simp only [Act.put,seti,set0,setS]
      refine tk (i:=11) (oi:=⟨some 35,_,_,_,_,_⟩) (v:=_) rfl kx ix d01 sl ?_;try simp only [Act.put,seti,set0,setS]
      refine wpLate_one (i:=13) (o:=⟨some 11,_,_,_,_,_⟩) kx rfl (fun K hK=>?_);go_simp;have X:=hid (X.out.new #[.bool false,.string ⟨#[]⟩,.bool false,.string ⟨#[]⟩,.bool false] 147);refine hK.out _ _ c01 ?_;clear hK K;try simp only [Act.put,seti,set0,setS]
      obtain ⟨V13,hV⟩:=wexi X.out;rw [←hV] at X ⊢;clear hV;refine wpLate_one (i:=14) (o:=⟨none,_,_,_,_,_⟩) kx rfl (fun K hK=>?_);obtain ⟨x0,x1,x2,x3,x4⟩:=X.out.c5 (i:=3) rfl;obtain ⟨y0,y1,y2,y3,y4⟩:=X.out.f5 (i:=3) rfl;have X:=hid (X.out.set5 (i:=3) rfl (.bool ba) (.string ma) (.bool false) (.string da) (.bool oa));go_simp;refine hK.out _ _ c01 ?_;clear hK K x0 x1 x2 x3 x4 y0 y1 y2 y3 y4;try simp only [Act.put,seti,set0,setS]
      obtain ⟨W14,hV⟩:=wexi X.out;rw [←hV] at X ⊢;clear hV;refine wpLate_one (i:=15) (o:=⟨none,_,_,_,_,_⟩) kx rfl (fun K hK=>?_);obtain ⟨x0,x1,x2,x3,x4⟩:=X.out.c5 (i:=4) rfl;obtain ⟨y0,y1,y2,y3,y4⟩:=X.out.f5 (i:=4) rfl;have X:=hid (X.out.set5 (i:=4) rfl (.bool bb) (.string mb) (.bool false) (.string db) (.bool ob));go_simp;refine hK.out _ _ c01 ?_;clear hK K x0 x1 x2 x3 x4 y0 y1 y2 y3 y4;try simp only [Act.put,seti,set0,setS]
      obtain ⟨W15,hV⟩:=wexi X.out;rw [←hV] at X ⊢;clear hV;refine wpLate_done kx ?_ _;go_wp2_with fail
      go_meet;exact ⟨_,_,rfl,rfl,X.out.pick [0,1,2,3,4] _ [] rfl dc (by simp)⟩;go_simp;have X:=hid (X.out.new #[.bool false,.string ⟨#[]⟩,.bool false,.string ⟨#[]⟩,.bool false] 147);refine hK.out _ _ c01 ?_;clear hK K;try simp only [Act.put,seti,set0,setS]
      obtain ⟨V16,hV⟩:=wexi X.out;rw [←hV] at X ⊢;clear hV;refine wpLate_one (i:=9) (o:=⟨some 33,_,_,_,_,_⟩) kx rfl (fun K hK=>?_);go_simp
      (go_at_call 94;refine (HD2.out _ (HE.out _ X.out.bel)).mono ?_;rintro e u17 ⟨rfl,hb9⟩;have X:=hid (X.out.next hb9);clear hb9)
      try go_wp2_with fail
      refine hK.out _ _ c01 ?_;clear hK K;try simp only [Act.put,seti,set0,setS]
      refine tk (i:=11) (oi:=⟨some 35,_,_,_,_,_⟩) (v:=_) rfl kx ix d01 sl ?_;try simp only [Act.put,seti,set0,setS]
      refine wpLate_one (i:=14) (o:=⟨none,_,_,_,_,_⟩) kx rfl (fun K hK=>?_);obtain ⟨x0,x1,x2,x3,x4⟩:=X.out.c5 (i:=3) rfl;obtain ⟨y0,y1,y2,y3,y4⟩:=X.out.f5 (i:=3) rfl;have X:=hid (X.out.set5 (i:=3) rfl (.bool ba) (.string ma) (.bool false) (.string da) (.bool oa));go_simp;refine hK.out _ _ c01 ?_;clear hK K x0 x1 x2 x3 x4 y0 y1 y2 y3 y4;try simp only [Act.put,seti,set0,setS]
      obtain ⟨W18,hV⟩:=wexi X.out;rw [←hV] at X ⊢;clear hV;refine wpLate_one (i:=15) (o:=⟨none,_,_,_,_,_⟩) kx rfl (fun K hK=>?_);obtain ⟨x0,x1,x2,x3,x4⟩:=X.out.c5 (i:=4) rfl;obtain ⟨y0,y1,y2,y3,y4⟩:=X.out.f5 (i:=4) rfl;have X:=hid (X.out.set5 (i:=4) rfl (.bool bb) (.string mb) (.bool false) (.string db) (.bool ob));go_simp;refine hK.out _ _ c01 ?_;clear hK K x0 x1 x2 x3 x4 y0 y1 y2 y3 y4;try simp only [Act.put,seti,set0,setS]
      obtain ⟨W19,hV⟩:=wexi X.out;rw [←hV] at X ⊢;clear hV;exact k30
    · skip
      go_simp;have X:=hid (X.out.new #[.bool false,.string ⟨#[]⟩,.bool false,.string ⟨#[]⟩,.bool false] 147);refine hK.out _ _ c01 ?_;clear hK K;try simp only [Act.put,seti,set0,setS]
      obtain ⟨V20,hV⟩:=wexi X.out;rw [←hV] at X ⊢;clear hV;refine wpLate_two (i:=9) (j:=12) (o:=⟨some 33,_,_,_,_,_⟩) (o':=⟨some 10,_,_,_,_,_⟩) kx rfl rfl (fun K hK=>?_) (fun K hK=>?_);go_simp
      (go_at_call 94;refine (HD2.out _ (HE.out _ X.out.bel)).mono ?_;rintro e u21 ⟨rfl,hb9⟩;have X:=hid (X.out.next hb9);clear hb9)
      try go_wp2_with fail
      refine hK.out _ _ c01 ?_;clear hK K;try simp only [Act.put,seti,set0,setS]
      refine tk (i:=11) (oi:=⟨some 35,_,_,_,_,_⟩) (v:=_) rfl kx ix d01 sl ?_;try simp only [Act.put,seti,set0,setS]
      refine wpLate_one (i:=12) (o:=⟨some 10,_,_,_,_,_⟩) kx rfl (fun K hK=>?_);go_simp;have X:=hid (X.out.new #[.bool false,.string ⟨#[]⟩,.bool false,.string ⟨#[]⟩,.bool false] 147);refine hK.out _ _ c01 ?_;clear hK K;try simp only [Act.put,seti,set0,setS]
      obtain ⟨V22,hV⟩:=wexi X.out;rw [←hV] at X ⊢;clear hV;refine wpLate_one (i:=14) (o:=⟨none,_,_,_,_,_⟩) kx rfl (fun K hK=>?_);obtain ⟨x0,x1,x2,x3,x4⟩:=X.out.c5 (i:=4) rfl;obtain ⟨y0,y1,y2,y3,y4⟩:=X.out.f5 (i:=4) rfl;have X:=hid (X.out.set5 (i:=4) rfl (.bool ba) (.string ma) (.bool false) (.string da) (.bool oa));go_simp;refine hK.out _ _ c01 ?_;clear hK K x0 x1 x2 x3 x4 y0 y1 y2 y3 y4;try simp only [Act.put,seti,set0,setS]
      obtain ⟨W23,hV⟩:=wexi X.out;rw [←hV] at X ⊢;clear hV;refine wpLate_one (i:=15) (o:=⟨none,_,_,_,_,_⟩) kx rfl (fun K hK=>?_);obtain ⟨x0,x1,x2,x3,x4⟩:=X.out.c5 (i:=3) rfl;obtain ⟨y0,y1,y2,y3,y4⟩:=X.out.f5 (i:=3) rfl;have X:=hid (X.out.set5 (i:=3) rfl (.bool bb) (.string mb) (.bool false) (.string db) (.bool ob));go_simp;refine hK.out _ _ c01 ?_;clear hK K x0 x1 x2 x3 x4 y0 y1 y2 y3 y4;try simp only [Act.put,seti,set0,setS]
      obtain ⟨W24,hV⟩:=wexi X.out;rw [←hV] at X ⊢;clear hV;refine wpLate_done kx ?_ _;go_wp2_with fail
      go_meet;exact ⟨_,_,rfl,rfl,X.out.pick [0,1,2,4,3] _ [] rfl dc (by simp)⟩;go_simp;have X:=hid (X.out.new #[.bool false,.string ⟨#[]⟩,.bool false,.string ⟨#[]⟩,.bool false] 147);refine hK.out _ _ c01 ?_;clear hK K;try simp only [Act.put,seti,set0,setS]
      obtain ⟨V25,hV⟩:=wexi X.out;rw [←hV] at X ⊢;clear hV;refine wpLate_one (i:=9) (o:=⟨some 33,_,_,_,_,_⟩) kx rfl (fun K hK=>?_);go_simp
      (go_at_call 94;refine (HD2.out _ (HE.out _ X.out.bel)).mono ?_;rintro e u26 ⟨rfl,hb9⟩;have X:=hid (X.out.next hb9);clear hb9)
      try go_wp2_with fail
      refine hK.out _ _ c01 ?_;clear hK K;try simp only [Act.put,seti,set0,setS]
      refine tk (i:=11) (oi:=⟨some 35,_,_,_,_,_⟩) (v:=_) rfl kx ix d01 sl ?_;try simp only [Act.put,seti,set0,setS]
      refine wpLate_one (i:=14) (o:=⟨none,_,_,_,_,_⟩) kx rfl (fun K hK=>?_);obtain ⟨x0,x1,x2,x3,x4⟩:=X.out.c5 (i:=4) rfl;obtain ⟨y0,y1,y2,y3,y4⟩:=X.out.f5 (i:=4) rfl;have X:=hid (X.out.set5 (i:=4) rfl (.bool ba) (.string ma) (.bool false) (.string da) (.bool oa));go_simp;refine hK.out _ _ c01 ?_;clear hK K x0 x1 x2 x3 x4 y0 y1 y2 y3 y4;try simp only [Act.put,seti,set0,setS]
      obtain ⟨W27,hV⟩:=wexi X.out;rw [←hV] at X ⊢;clear hV;refine wpLate_one (i:=15) (o:=⟨none,_,_,_,_,_⟩) kx rfl (fun K hK=>?_);obtain ⟨x0,x1,x2,x3,x4⟩:=X.out.c5 (i:=3) rfl;obtain ⟨y0,y1,y2,y3,y4⟩:=X.out.f5 (i:=3) rfl;have X:=hid (X.out.set5 (i:=3) rfl (.bool bb) (.string mb) (.bool false) (.string db) (.bool ob));go_simp;refine hK.out _ _ c01 ?_;clear hK K x0 x1 x2 x3 x4 y0 y1 y2 y3 y4;try simp only [Act.put,seti,set0,setS]
      obtain ⟨W28,hV⟩:=wexi X.out;exact k31
  · skip
    go_simp;have X:=hid (X.out.new #[.bool false,.string ⟨#[]⟩,.bool false,.string ⟨#[]⟩,.bool false] 147);refine hK.out _ _ c01 ?_;clear hK K;try simp only [Act.put,seti,set0,setS]
    obtain ⟨V29,hV⟩:=wexi X.out;rw [←hV] at X ⊢;clear hV;refine wpLate_two (i:=3) (j:=13) (o:=⟨some 27,_,_,_,_,_⟩) (o':=⟨some 11,_,_,_,_,_⟩) kx rfl rfl (fun K hK=>?_) (fun K hK=>?_)
    · skip
      go_simp
      (go_at_call 94;refine (HD1.out _ (HE.out _ X.out.bel)).mono ?_;rintro e u30 ⟨rfl,hb9⟩;have X:=hid (X.out.next hb9);clear hb9)
      try go_wp2_with fail
      refine hK.out _ _ c01 ?_;clear hK K;try simp only [Act.put,seti,set0,setS]
      refine tk (i:=5) (oi:=⟨some 29,_,_,_,_,_⟩) (v:=_) rfl kx ix d01 sl ?_;try simp only [Act.put,seti,set0,setS]
      refine wpLate_two (i:=9) (j:=13) (o:=⟨some 33,_,_,_,_,_⟩) (o':=⟨some 11,_,_,_,_,_⟩) kx rfl rfl (fun K hK=>?_) (fun K hK=>?_);go_simp
      (go_at_call 94;refine (HD2.out _ (HE.out _ X.out.bel)).mono ?_;rintro e u31 ⟨rfl,hb9⟩;have X:=hid (X.out.next hb9);clear hb9)
      try go_wp2_with fail
      refine hK.out _ _ c01 ?_;clear hK K;try simp only [Act.put,seti,set0,setS]
      refine tk (i:=11) (oi:=⟨some 35,_,_,_,_,_⟩) (v:=_) rfl kx ix d01 sl ?_;try simp only [Act.put,seti,set0,setS]
      refine wpLate_one (i:=13) (o:=⟨some 11,_,_,_,_,_⟩) kx rfl (fun K hK=>?_);go_simp;have X:=hid (X.out.new #[.bool false,.string ⟨#[]⟩,.bool false,.string ⟨#[]⟩,.bool false] 147);refine hK.out _ _ c01 ?_;clear hK K;try simp only [Act.put,seti,set0,setS]
      obtain ⟨V32,hV⟩:=wexi X.out;rw [←hV] at X ⊢;clear hV;refine wpLate_one (i:=14) (o:=⟨none,_,_,_,_,_⟩) kx rfl (fun K hK=>?_);obtain ⟨x0,x1,x2,x3,x4⟩:=X.out.c5 (i:=3) rfl;obtain ⟨y0,y1,y2,y3,y4⟩:=X.out.f5 (i:=3) rfl;have X:=hid (X.out.set5 (i:=3) rfl (.bool ba) (.string ma) (.bool false) (.string da) (.bool oa));go_simp;refine hK.out _ _ c01 ?_;clear hK K x0 x1 x2 x3 x4 y0 y1 y2 y3 y4;try simp only [Act.put,seti,set0,setS]
      obtain ⟨W33,hV⟩:=wexi X.out;rw [←hV] at X ⊢;clear hV;refine wpLate_one (i:=15) (o:=⟨none,_,_,_,_,_⟩) kx rfl (fun K hK=>?_);obtain ⟨x0,x1,x2,x3,x4⟩:=X.out.c5 (i:=4) rfl;obtain ⟨y0,y1,y2,y3,y4⟩:=X.out.f5 (i:=4) rfl;have X:=hid (X.out.set5 (i:=4) rfl (.bool bb) (.string mb) (.bool false) (.string db) (.bool ob));go_simp;refine hK.out _ _ c01 ?_;clear hK K x0 x1 x2 x3 x4 y0 y1 y2 y3 y4;try simp only [Act.put,seti,set0,setS]
      obtain ⟨W34,hV⟩:=wexi X.out;rw [←hV] at X ⊢;clear hV;refine wpLate_done kx ?_ _;go_wp2_with fail
      go_meet;exact ⟨_,_,rfl,rfl,X.out.pick [0,1,2,3,4] _ [] rfl dc (by simp)⟩;go_simp;have X:=hid (X.out.new #[.bool false,.string ⟨#[]⟩,.bool false,.string ⟨#[]⟩,.bool false] 147);refine hK.out _ _ c01 ?_;clear hK K;try simp only [Act.put,seti,set0,setS]
      obtain ⟨V35,hV⟩:=wexi X.out;rw [←hV] at X ⊢;clear hV;refine wpLate_one (i:=9) (o:=⟨some 33,_,_,_,_,_⟩) kx rfl (fun K hK=>?_);go_simp
      (go_at_call 94;refine (HD2.out _ (HE.out _ X.out.bel)).mono ?_;rintro e u36 ⟨rfl,hb9⟩;have X:=hid (X.out.next hb9);clear hb9)
      try go_wp2_with fail
      refine hK.out _ _ c01 ?_;clear hK K;try simp only [Act.put,seti,set0,setS]
      refine tk (i:=11) (oi:=⟨some 35,_,_,_,_,_⟩) (v:=_) rfl kx ix d01 sl ?_;try simp only [Act.put,seti,set0,setS]
      refine wpLate_one (i:=14) (o:=⟨none,_,_,_,_,_⟩) kx rfl (fun K hK=>?_);obtain ⟨x0,x1,x2,x3,x4⟩:=X.out.c5 (i:=3) rfl;obtain ⟨y0,y1,y2,y3,y4⟩:=X.out.f5 (i:=3) rfl;have X:=hid (X.out.set5 (i:=3) rfl (.bool ba) (.string ma) (.bool false) (.string da) (.bool oa));go_simp;refine hK.out _ _ c01 ?_;clear hK K x0 x1 x2 x3 x4 y0 y1 y2 y3 y4;try simp only [Act.put,seti,set0,setS]
      obtain ⟨W37,hV⟩:=wexi X.out;rw [←hV] at X ⊢;clear hV;refine wpLate_one (i:=15) (o:=⟨none,_,_,_,_,_⟩) kx rfl (fun K hK=>?_);obtain ⟨x0,x1,x2,x3,x4⟩:=X.out.c5 (i:=4) rfl;obtain ⟨y0,y1,y2,y3,y4⟩:=X.out.f5 (i:=4) rfl;have X:=hid (X.out.set5 (i:=4) rfl (.bool bb) (.string mb) (.bool false) (.string db) (.bool ob));go_simp;refine hK.out _ _ c01 ?_;clear hK K x0 x1 x2 x3 x4 y0 y1 y2 y3 y4;try simp only [Act.put,seti,set0,setS]
      obtain ⟨W38,hV⟩:=wexi X.out;rw [←hV] at X ⊢;clear hV;exact k30
    go_simp;have X:=hid (X.out.new #[.bool false,.string ⟨#[]⟩,.bool false,.string ⟨#[]⟩,.bool false] 147);refine hK.out _ _ c01 ?_;clear hK K;try simp only [Act.put,seti,set0,setS]
    obtain ⟨V39,hV⟩:=wexi X.out;rw [←hV] at X ⊢;clear hV;refine wpLate_one (i:=3) (o:=⟨some 27,_,_,_,_,_⟩) kx rfl (fun K hK=>?_);go_simp
    (go_at_call 94;refine (HD1.out _ (HE.out _ X.out.bel)).mono ?_;rintro e u40 ⟨rfl,hb9⟩;have X:=hid (X.out.next hb9);clear hb9)
    try go_wp2_with fail
    refine hK.out _ _ c01 ?_;clear hK K;try simp only [Act.put,seti,set0,setS]
    refine tk (i:=5) (oi:=⟨some 29,_,_,_,_,_⟩) (v:=_) rfl kx ix d01 sl ?_;try simp only [Act.put,seti,set0,setS]
    refine wpLate_one (i:=9) (o:=⟨some 33,_,_,_,_,_⟩) kx rfl (fun K hK=>?_);go_simp
    (go_at_call 94;refine (HD2.out _ (HE.out _ X.out.bel)).mono ?_;rintro e u41 ⟨rfl,hb9⟩;have X:=hid (X.out.next hb9);clear hb9)
    try go_wp2_with fail
    refine hK.out _ _ c01 ?_;clear hK K;try simp only [Act.put,seti,set0,setS]
    refine tk (i:=11) (oi:=⟨some 35,_,_,_,_,_⟩) (v:=_) rfl kx ix d01 sl ?_;try simp only [Act.put,seti,set0,setS]
    refine wpLate_one (i:=14) (o:=⟨none,_,_,_,_,_⟩) kx rfl (fun K hK=>?_);obtain ⟨x0,x1,x2,x3,x4⟩:=X.out.c5 (i:=3) rfl;obtain ⟨y0,y1,y2,y3,y4⟩:=X.out.f5 (i:=3) rfl;have X:=hid (X.out.set5 (i:=3) rfl (.bool ba) (.string ma) (.bool false) (.string da) (.bool oa));go_simp;refine hK.out _ _ c01 ?_;clear hK K x0 x1 x2 x3 x4 y0 y1 y2 y3 y4;try simp only [Act.put,seti,set0,setS]
    obtain ⟨W42,hV⟩:=wexi X.out;rw [←hV] at X ⊢;clear hV;refine wpLate_one (i:=15) (o:=⟨none,_,_,_,_,_⟩) kx rfl (fun K hK=>?_);obtain ⟨x0,x1,x2,x3,x4⟩:=X.out.c5 (i:=4) rfl;obtain ⟨y0,y1,y2,y3,y4⟩:=X.out.f5 (i:=4) rfl;have X:=hid (X.out.set5 (i:=4) rfl (.bool bb) (.string mb) (.bool false) (.string db) (.bool ob));go_simp;refine hK.out _ _ c01 ?_;clear hK K x0 x1 x2 x3 x4 y0 y1 y2 y3 y4;try simp only [Act.put,seti,set0,setS]
    obtain ⟨W43,hV⟩:=wexi X.out;rw [←hV] at X ⊢;clear hV;exact k30
  · skip
    go_simp;have X:=hid (X.out.new #[.bool false,.string ⟨#[]⟩,.bool false,.string ⟨#[]⟩,.bool false] 147);refine hK.out _ _ c01 ?_;clear hK K;try simp only [Act.put,seti,set0,setS]
    obtain ⟨V44,hV⟩:=wexi X.out;rw [←hV] at X ⊢;clear hV;refine wpLate_two (i:=3) (j:=12) (o:=⟨some 27,_,_,_,_,_⟩) (o':=⟨some 10,_,_,_,_,_⟩) kx rfl rfl (fun K hK=>?_) (fun K hK=>?_)
    · skip
      go_simp
      (go_at_call 94;refine (HD1.out _ (HE.out _ X.out.bel)).mono ?_;rintro e u45 ⟨rfl,hb9⟩;have X:=hid (X.out.next hb9);clear hb9)
      try go_wp2_with fail
      refine hK.out _ _ c01 ?_;clear hK K;try simp only [Act.put,seti,set0,setS]
      refine tk (i:=5) (oi:=⟨some 29,_,_,_,_,_⟩) (v:=_) rfl kx ix d01 sl ?_;try simp only [Act.put,seti,set0,setS]
      refine wpLate_two (i:=9) (j:=12) (o:=⟨some 33,_,_,_,_,_⟩) (o':=⟨some 10,_,_,_,_,_⟩) kx rfl rfl (fun K hK=>?_) (fun K hK=>?_);go_simp
      (go_at_call 94;refine (HD2.out _ (HE.out _ X.out.bel)).mono ?_;rintro e u46 ⟨rfl,hb9⟩;have X:=hid (X.out.next hb9);clear hb9)
      try go_wp2_with fail
      refine hK.out _ _ c01 ?_;clear hK K;try simp only [Act.put,seti,set0,setS]
      refine tk (i:=11) (oi:=⟨some 35,_,_,_,_,_⟩) (v:=_) rfl kx ix d01 sl ?_;try simp only [Act.put,seti,set0,setS]
      refine wpLate_one (i:=12) (o:=⟨some 10,_,_,_,_,_⟩) kx rfl (fun K hK=>?_);go_simp;have X:=hid (X.out.new #[.bool false,.string ⟨#[]⟩,.bool false,.string ⟨#[]⟩,.bool false] 147);refine hK.out _ _ c01 ?_;clear hK K;try simp only [Act.put,seti,set0,setS]
      obtain ⟨V47,hV⟩:=wexi X.out;rw [←hV] at X ⊢;clear hV;refine wpLate_one (i:=14) (o:=⟨none,_,_,_,_,_⟩) kx rfl (fun K hK=>?_);obtain ⟨x0,x1,x2,x3,x4⟩:=X.out.c5 (i:=4) rfl;obtain ⟨y0,y1,y2,y3,y4⟩:=X.out.f5 (i:=4) rfl;have X:=hid (X.out.set5 (i:=4) rfl (.bool ba) (.string ma) (.bool false) (.string da) (.bool oa));go_simp;refine hK.out _ _ c01 ?_;clear hK K x0 x1 x2 x3 x4 y0 y1 y2 y3 y4;try simp only [Act.put,seti,set0,setS]
      obtain ⟨W48,hV⟩:=wexi X.out;rw [←hV] at X ⊢;clear hV;refine wpLate_one (i:=15) (o:=⟨none,_,_,_,_,_⟩) kx rfl (fun K hK=>?_);obtain ⟨x0,x1,x2,x3,x4⟩:=X.out.c5 (i:=3) rfl;obtain ⟨y0,y1,y2,y3,y4⟩:=X.out.f5 (i:=3) rfl;have X:=hid (X.out.set5 (i:=3) rfl (.bool bb) (.string mb) (.bool false) (.string db) (.bool ob));go_simp;refine hK.out _ _ c01 ?_;clear hK K x0 x1 x2 x3 x4 y0 y1 y2 y3 y4;try simp only [Act.put,seti,set0,setS]
      obtain ⟨W49,hV⟩:=wexi X.out;rw [←hV] at X ⊢;clear hV;refine wpLate_done kx ?_ _;go_wp2_with fail
      go_meet;exact ⟨_,_,rfl,rfl,X.out.pick [0,1,2,4,3] _ [] rfl dc (by simp)⟩;go_simp;have X:=hid (X.out.new #[.bool false,.string ⟨#[]⟩,.bool false,.string ⟨#[]⟩,.bool false] 147);refine hK.out _ _ c01 ?_;clear hK K;try simp only [Act.put,seti,set0,setS]
      obtain ⟨V50,hV⟩:=wexi X.out;rw [←hV] at X ⊢;clear hV;refine wpLate_one (i:=9) (o:=⟨some 33,_,_,_,_,_⟩) kx rfl (fun K hK=>?_);go_simp
      (go_at_call 94;refine (HD2.out _ (HE.out _ X.out.bel)).mono ?_;rintro e u51 ⟨rfl,hb9⟩;have X:=hid (X.out.next hb9);clear hb9)
      try go_wp2_with fail
      refine hK.out _ _ c01 ?_;clear hK K;try simp only [Act.put,seti,set0,setS]
      refine tk (i:=11) (oi:=⟨some 35,_,_,_,_,_⟩) (v:=_) rfl kx ix d01 sl ?_;try simp only [Act.put,seti,set0,setS]
      refine wpLate_one (i:=14) (o:=⟨none,_,_,_,_,_⟩) kx rfl (fun K hK=>?_);obtain ⟨x0,x1,x2,x3,x4⟩:=X.out.c5 (i:=4) rfl;obtain ⟨y0,y1,y2,y3,y4⟩:=X.out.f5 (i:=4) rfl;have X:=hid (X.out.set5 (i:=4) rfl (.bool ba) (.string ma) (.bool false) (.string da) (.bool oa));go_simp;refine hK.out _ _ c01 ?_;clear hK K x0 x1 x2 x3 x4 y0 y1 y2 y3 y4;try simp only [Act.put,seti,set0,setS]
      obtain ⟨W52,hV⟩:=wexi X.out;rw [←hV] at X ⊢;clear hV;refine wpLate_one (i:=15) (o:=⟨none,_,_,_,_,_⟩) kx rfl (fun K hK=>?_);obtain ⟨x0,x1,x2,x3,x4⟩:=X.out.c5 (i:=3) rfl;obtain ⟨y0,y1,y2,y3,y4⟩:=X.out.f5 (i:=3) rfl;have X:=hid (X.out.set5 (i:=3) rfl (.bool bb) (.string mb) (.bool false) (.string db) (.bool ob));go_simp;refine hK.out _ _ c01 ?_;clear hK K x0 x1 x2 x3 x4 y0 y1 y2 y3 y4;try simp only [Act.put,seti,set0,setS]
      obtain ⟨W53,hV⟩:=wexi X.out;exact k31
    go_simp;have X:=hid (X.out.new #[.bool false,.string ⟨#[]⟩,.bool false,.string ⟨#[]⟩,.bool false] 147);refine hK.out _ _ c01 ?_;clear hK K;try simp only [Act.put,seti,set0,setS]
    obtain ⟨V54,hV⟩:=wexi X.out;rw [←hV] at X ⊢;clear hV;refine wpLate_one (i:=3) (o:=⟨some 27,_,_,_,_,_⟩) kx rfl (fun K hK=>?_);go_simp
    (go_at_call 94;refine (HD1.out _ (HE.out _ X.out.bel)).mono ?_;rintro e u55 ⟨rfl,hb9⟩;have X:=hid (X.out.next hb9);clear hb9)
    try go_wp2_with fail
    refine hK.out _ _ c01 ?_;clear hK K;try simp only [Act.put,seti,set0,setS]
    refine tk (i:=5) (oi:=⟨some 29,_,_,_,_,_⟩) (v:=_) rfl kx ix d01 sl ?_;try simp only [Act.put,seti,set0,setS]
    refine wpLate_one (i:=9) (o:=⟨some 33,_,_,_,_,_⟩) kx rfl (fun K hK=>?_);go_simp
    (go_at_call 94;refine (HD2.out _ (HE.out _ X.out.bel)).mono ?_;rintro e u56 ⟨rfl,hb9⟩;have X:=hid (X.out.next hb9);clear hb9)
    try go_wp2_with fail
    refine hK.out _ _ c01 ?_;clear hK K;try simp only [Act.put,seti,set0,setS]
    refine tk (i:=11) (oi:=⟨some 35,_,_,_,_,_⟩) (v:=_) rfl kx ix d01 sl ?_;try simp only [Act.put,seti,set0,setS]
    refine wpLate_one (i:=14) (o:=⟨none,_,_,_,_,_⟩) kx rfl (fun K hK=>?_);obtain ⟨x0,x1,x2,x3,x4⟩:=X.out.c5 (i:=4) rfl;obtain ⟨y0,y1,y2,y3,y4⟩:=X.out.f5 (i:=4) rfl;have X:=hid (X.out.set5 (i:=4) rfl (.bool ba) (.string ma) (.bool false) (.string da) (.bool oa));go_simp;refine hK.out _ _ c01 ?_;clear hK K x0 x1 x2 x3 x4 y0 y1 y2 y3 y4;try simp only [Act.put,seti,set0,setS]
    obtain ⟨W57,hV⟩:=wexi X.out;rw [←hV] at X ⊢;clear hV;refine wpLate_one (i:=15) (o:=⟨none,_,_,_,_,_⟩) kx rfl (fun K hK=>?_);obtain ⟨x0,x1,x2,x3,x4⟩:=X.out.c5 (i:=3) rfl;obtain ⟨y0,y1,y2,y3,y4⟩:=X.out.f5 (i:=3) rfl;have X:=hid (X.out.set5 (i:=3) rfl (.bool bb) (.string mb) (.bool false) (.string db) (.bool ob));go_simp;refine hK.out _ _ c01 ?_;clear hK K x0 x1 x2 x3 x4 y0 y1 y2 y3 y4;try simp only [Act.put,seti,set0,setS]
    obtain ⟨W58,hV⟩:=wexi X.out;exact k31
 obtain ⟨g10,g11,rfl,rfl,hX⟩:=hcut;have X:=hid hX;clear hX;go_upto_region 4 with fail
 go_cut [12] (fun s12 wx=>s12=.int .i64 z∧Sb w [(w.heap.size,#[.bool ba,.string ma,.bool false,.string ka],25),(w.heap.size+1,#[.bool bb,.string mb,.bool false,.string kb],25),(w.heap.size+1+1,#[.bool false,.string ⟨#[]⟩,.bool false,.string ⟨#[]⟩],25),(g10,#[.bool ba,.string ma,.bool false,.string da,.bool oa],147),(g11,#[.bool bb,.string mb,.bool false,.string db,.bool ob],147)] [] wx)
 case first =>
  obtain ⟨a0,a1,a2,a3⟩:=X.out.c4 (i:=0) rfl;obtain ⟨c0,c1,c2,c3⟩:=X.out.c4 (i:=1) rfl;go_wp2_with fail
  refine (HCM.out _ (HE.out _ X.out.bel)).mono ?_;rintro e u1 ⟨rfl,hb9⟩;have X:=hid (X.out.next hb9);clear hb9;clear a0 a1 a2 a3 c0 c1 c2 c3;go_wp2_with fail
  go_meet;exact ⟨rfl,X.out⟩
 obtain ⟨rfl,hX⟩:=hcut;have X:=hid hX;clear hX;go_upto_region 5 with fail
 go_cut [13,14] (fun s13 s14 wx=>s13=.int .i64 sa∧s14=.int .i64 sb∧Sb w [(w.heap.size,#[.bool ba,.string ma,.bool false,.string ka],25),(w.heap.size+1,#[.bool bb,.string mb,.bool false,.string kb],25),(w.heap.size+1+1,#[.bool false,.string ⟨#[]⟩,.bool false,.string ⟨#[]⟩],25),(g10,#[.bool ba,.string ma,.bool false,.string da,.bool oa],147),(g11,#[.bool bb,.string mb,.bool false,.string db,.bool ob],147)] [] wx)
 case first =>
  clear HCM HZ3 HA3 HB3 HSP HSQ HBA HBB HB1 HB2 HCP HNG HF1 HF2 HF3 HF4 HE6 HE8 HE;refine wp_region_late (S:=fun w'=>(w'.cell? ⟨w.heap.size,0,none⟩=some (.bool ba)∧w'.cell? ⟨w.heap.size,1,none⟩=some (.string ma)∧w'.cell? ⟨w.heap.size,2,none⟩=some (.bool false)∧w'.cell? ⟨w.heap.size,3,none⟩=some (.string ka))∧(w'.cell? ⟨w.heap.size+1,0,none⟩=some (.bool bb)∧w'.cell? ⟨w.heap.size+1,1,none⟩=some (.string mb)∧w'.cell? ⟨w.heap.size+1,2,none⟩=some (.bool false)∧w'.cell? ⟨w.heap.size+1,3,none⟩=some (.string kb))) (L:=[]) kx ?_;have X:=hid X.out.drew;obtain ⟨V0,hV⟩:=wexi X.out;rw [←hV] at X ⊢;clear hV;refine tk (i:=0) (oi:=⟨some 39,_,_,_,_,_⟩) (v:=_) rfl kx ix d01 sl ?_;try simp only [Act.put,seti,set0,setS]
  refine tk (i:=2) (oi:=⟨some 41,_,_,_,_,_⟩) (v:=_) rfl kx ix d01 sl ?_;try simp only [Act.put,seti,set0,setS]
  refine wpLate_one (i:=1) (o:=⟨some 40,_,_,_,_,_⟩) kx rfl (fun K hK=>?_);go_simp
  (go_at_call 71;refine (HS1.out _).mono ?_;rintro e u1 ⟨rfl,hb9⟩;have X:=hid (X.out.next hb9);clear hb9)
  try go_wp2_with fail
  refine hK.out _ _ c01 ?_;clear hK K;try simp only [Act.put,seti,set0,setS]
  refine wpLate_one (i:=3) (o:=⟨some 42,_,_,_,_,_⟩) kx rfl (fun K hK=>?_);go_simp
  (go_at_call 71;refine (HS2.out _).mono ?_;rintro e u2 ⟨rfl,hb9⟩;have X:=hid (X.out.next hb9);clear hb9)
  try go_wp2_with fail
  refine hK.out _ _ c01 ?_;clear hK K;try simp only [Act.put,seti,set0,setS]
  refine tk (i:=4) (oi:=⟨some 13,_,_,_,_,_⟩) (v:=_) rfl kx ix d01 sl ?_;try simp only [Act.put,seti,set0,setS]
  refine tk (i:=5) (oi:=⟨some 14,_,_,_,_,_⟩) (v:=_) rfl kx ix d01 sl ?_;try simp only [Act.put,seti,set0,setS]
  refine wpLate_done kx ?_ _;go_wp2_with fail
  go_meet;exact ⟨rfl,rfl,X.out⟩
 obtain ⟨rfl,rfl,hX⟩:=hcut;have X:=hid hX;clear hX;go_upto_region 6 with fail
 go_cut [43] (fun s43 wx=>s43=.bool e6∧Sb w [(w.heap.size,#[.bool ba,.string ma,.bool false,.string ka],25),(w.heap.size+1,#[.bool bb,.string mb,.bool false,.string kb],25),(w.heap.size+1+1,#[.bool false,.string ⟨#[]⟩,.bool false,.string ⟨#[]⟩],25),(g10,#[.bool ba,.string ma,.bool false,.string da,.bool oa],147),(g11,#[.bool bb,.string mb,.bool false,.string db,.bool ob],147)] [] wx)
 case first =>
  rcases HZ3.out with rfl | rfl | rfl<;>cases oa<;>cases ob<;>(go_wp2_with fail;go_meet;exact ⟨by rw [HE6.out];rfl,X.out⟩)
 obtain ⟨rfl,hX⟩:=hcut;have X:=hid hX;clear hX;cases e6
 case' true =>
  obtain ⟨x0,x1,x2,x3⟩:=X.out.c4 (i:=2) rfl;obtain ⟨y0,y1,y2,y3⟩:=X.out.f4 (i:=2) rfl;go_wp2
  have X:=hid (X.out.set4 (i:=2) rfl (.bool false) (.string ⟨#[]⟩) (.bool false) (.string ⟨#[]⟩));obtain ⟨p0,p1,p2,p3⟩:=X.out.c4 (i:=2) rfl;exact bodyPost_ret (v:=.tuple #[.agg #[.bool false,.string ⟨#[]⟩,.bool false,.string ⟨#[]⟩],.int .i64 10]) (by simp [results,Tryz.results108,go_sem,p0,p1,p2,p3]) rfl (HF1.out (by first | rfl | trivial) _ _ ⟨rfl,X.out.bel⟩)
 go_upto_region 8 with fail
 go_cut [57] (fun s57 wx=>s57=.bool e8∧Sb w [(w.heap.size,#[.bool ba,.string ma,.bool false,.string ka],25),(w.heap.size+1,#[.bool bb,.string mb,.bool false,.string kb],25),(w.heap.size+1+1,#[.bool false,.string ⟨#[]⟩,.bool false,.string ⟨#[]⟩],25),(g10,#[.bool ba,.string ma,.bool false,.string da,.bool oa],147),(g11,#[.bool bb,.string mb,.bool false,.string db,.bool ob],147)] [] wx)
 case first =>
  rcases HA3.out with rfl | rfl | rfl
  · rcases HB3.out with rfl | rfl | rfl<;>cases ob<;>(go_wp2_with fail;go_meet;exact ⟨by rw [HE8.out];cases oa<;>rfl,X.out⟩)
  · rcases HB3.out with rfl | rfl | rfl<;>cases oa<;>cases ob<;>(go_wp2_with fail;go_meet;exact ⟨by rw [HE8.out];rfl,X.out⟩)
  · go_wp2_with fail
    go_meet;exact ⟨by rw [HE8.out];rfl,X.out⟩
 obtain ⟨rfl,hX⟩:=hcut;have X:=hid hX;clear hX;cases e8
 case' true =>
  obtain ⟨x0,x1,x2,x3⟩:=X.out.c4 (i:=2) rfl;obtain ⟨y0,y1,y2,y3⟩:=X.out.f4 (i:=2) rfl;go_wp2
  have X:=hid (X.out.set4 (i:=2) rfl (.bool false) (.string ⟨#[]⟩) (.bool false) (.string ⟨#[]⟩));obtain ⟨p0,p1,p2,p3⟩:=X.out.c4 (i:=2) rfl;exact bodyPost_ret (v:=.tuple #[.agg #[.bool false,.string ⟨#[]⟩,.bool false,.string ⟨#[]⟩],.int .i64 0]) (by simp [results,Tryz.results108,go_sem,p0,p1,p2,p3]) rfl (HF2.out (by first | rfl | trivial) (by first | rfl | trivial) _ _ ⟨rfl,X.out.bel⟩)
 by_cases hs:sa<0
 · have hsd:=decide_eq_true hs;have HSN:=hid (HSQ.out (by first | rfl | trivial) (by first | rfl | trivial) om);have HB1:=hid (HB1.out om);have HB2:=hid (HB2.out (by first | rfl | trivial) (by first | rfl | trivial) om);have HS0:=hid hs;go_upto_region 11 with fail
   refine wp_region_late (S:=fun w'=>(w'.cell? ⟨g10,0,none⟩=some (.bool ba)∧w'.cell? ⟨g10,1,none⟩=some (.string ma)∧w'.cell? ⟨g10,2,none⟩=some (.bool false)∧w'.cell? ⟨g10,3,none⟩=some (.string da)∧w'.cell? ⟨g10,4,none⟩=some (.bool oa))∧(w'.cell? ⟨g11,0,none⟩=some (.bool bb)∧w'.cell? ⟨g11,1,none⟩=some (.string mb)∧w'.cell? ⟨g11,2,none⟩=some (.bool false)∧w'.cell? ⟨g11,3,none⟩=some (.string db)∧w'.cell? ⟨g11,4,none⟩=some (.bool ob))) (L:=[]) kx ?_;have X:=hid X.out.drew;obtain ⟨V0,hV⟩:=wexi X.out;rw [←hV] at X ⊢;clear hV;refine tk (i:=0) (oi:=⟨some 84,_,_,_,_,_⟩) (v:=_) rfl kx ix (⟨X.out.c5 (i:=3) rfl,X.out.c5 (i:=4) rfl⟩) sl ?_;try simp only [Act.put,seti,set0,setS]
   refine tk (i:=2) (oi:=⟨some 86,_,_,_,_,_⟩) (v:=_) rfl kx ix (⟨X.out.c5 (i:=3) rfl,X.out.c5 (i:=4) rfl⟩) sl ?_;try simp only [Act.put,seti,set0,setS]
   refine wpLate_one (i:=1) (o:=⟨some 85,_,_,_,_,_⟩) kx rfl (fun K hK=>?_);go_simp
   (go_at_call 160;refine (HB2.out _).mono ?_;rintro e u1 ⟨rfl,hb9⟩;have X:=hid (X.out.next hb9);clear hb9)
   try go_wp2_with fail
   refine hK.out _ _ (Or.inr (fun _=>⟨X.out.c5 (i:=3) rfl,X.out.c5 (i:=4) rfl⟩)) ?_;clear hK K;try simp only [Act.put,seti,set0,setS]
   refine wpLate_one (i:=3) (o:=⟨some 87,_,_,_,_,_⟩) kx rfl (fun K hK=>?_);go_simp
   (go_at_call 160;refine (HB1.out _).mono ?_;rintro e u2 ⟨rfl,hb9⟩;have X:=hid (X.out.next hb9);clear hb9)
   try go_wp2_with fail
   refine hK.out _ _ (Or.inr (fun _=>⟨X.out.c5 (i:=3) rfl,X.out.c5 (i:=4) rfl⟩)) ?_;clear hK K;try simp only [Act.put,seti,set0,setS]
   refine wpLate_one (i:=4) (o:=⟨some 88,_,_,_,_,_⟩) kx rfl (fun K hK=>?_);go_simp
   (go_at_call 159;refine (HSN.out _ (HE.out _ X.out.bel)).mono ?_;rintro e u3 ⟨nS,mS,rfl,hS9,hb9⟩;have HSI:=hid hS9;have X:=hid (X.out.next hb9);clear hb9 hS9)
   try go_wp2_with fail
   refine hK.out _ _ (Or.inr (fun _=>⟨X.out.c5 (i:=3) rfl,X.out.c5 (i:=4) rfl⟩)) ?_;clear hK K;try simp only [Act.put,seti,set0,setS]
   refine tk (i:=5) (oi:=⟨some 89,_,_,_,_,_⟩) (v:=_) rfl kx ix (⟨X.out.c5 (i:=3) rfl,X.out.c5 (i:=4) rfl⟩) sl ?_;try simp only [Act.put,seti,set0,setS]
   refine tk (i:=6) (oi:=⟨some 90,_,_,_,_,_⟩) (v:=_) rfl kx ix (⟨X.out.c5 (i:=3) rfl,X.out.c5 (i:=4) rfl⟩) sl ?_;try simp only [Act.put,seti,set0,setS]
   refine wpLate_one (i:=7) (o:=⟨some 91,_,_,_,_,_⟩) kx rfl (fun K hK=>?_);go_simp
   (go_at_call 129;refine (HCP.out _ _ _ (HE.out _ X.out.bel)).mono ?_;rintro e u4 ⟨rfl,hb9⟩;have X:=hid (X.out.next hb9);clear hb9)
   try go_wp2_with fail
   refine hK.out _ _ (Or.inr (fun _=>⟨X.out.c5 (i:=3) rfl,X.out.c5 (i:=4) rfl⟩)) ?_;clear hK K;try simp only [Act.put,seti,set0,setS]
   refine wpLate_one (i:=8) (o:=⟨some 92,_,_,_,_,_⟩) kx rfl (fun K hK=>?_);go_simp
   (go_at_call 80;refine (HNG.out _ _ HSI.out _).mono ?_;rintro e u5 ⟨rfl,hb9⟩;have X:=hid (X.out.next hb9);clear hb9)
   try go_wp2_with fail
   refine hK.out _ _ (Or.inr (fun _=>⟨X.out.c5 (i:=3) rfl,X.out.c5 (i:=4) rfl⟩)) ?_;clear hK K;try simp only [Act.put,seti,set0,setS]
   refine wpLate_one (i:=9) (o:=⟨none,_,_,_,_,_⟩) kx rfl (fun K hK=>?_);obtain ⟨x0,x1,x2,x3⟩:=X.out.c4 (i:=2) rfl;obtain ⟨y0,y1,y2,y3⟩:=X.out.f4 (i:=2) rfl;have X:=hid (X.out.set4 (i:=2) rfl (.bool (decide (0<nS))) (.string (mag nS)) (.bool false) (.string (dm mS)));go_simp;refine hK.out _ _ (Or.inr (fun _=>⟨X.out.c5 (i:=3) rfl,X.out.c5 (i:=4) rfl⟩)) ?_;clear hK K x0 x1 x2 x3 y0 y1 y2 y3;try simp only [Act.put,seti,set0,setS]
   obtain ⟨W6,hV⟩:=wexi X.out;rw [←hV] at X ⊢;clear hV;refine tk (i:=10) (oi:=⟨some 9,_,_,_,_,_⟩) (v:=_) rfl kx ix (⟨X.out.c5 (i:=3) rfl,X.out.c5 (i:=4) rfl⟩) sl ?_;try simp only [Act.put,seti,set0,setS]
   refine wpLate_done kx ?_ _;go_wp2
   obtain ⟨p0,p1,p2,p3⟩:=X.out.c4 (i:=2) rfl;exact bodyPost_ret (v:=.tuple #[.agg #[.bool (decide (0<nS)),.string (mag nS),.bool false,.string (dm mS)],.int .i64 0]) (by simp [results,Tryz.results108,go_sem,p0,p1,p2,p3]) rfl (HF3.out (by first | rfl | trivial) (by first | rfl | trivial) (by have:=HS0.out;omega) _ _ HSI.out _ _ ⟨rfl,X.out.bel⟩)
 · have hsd:=decide_eq_false hs;have HSN:=hid (HSP.out (by first | rfl | trivial) om);have HS0:=hid hs;obtain rfl:=HBA.out om;obtain rfl:=HBB.out (by first | rfl | trivial) om;obtain ⟨a0,a1,a2,a3,a4⟩:=X.out.c5 (i:=3) rfl;obtain ⟨c0,c1,c2,c3,c4⟩:=X.out.c5 (i:=4) rfl;go_wp2_with fail
   refine (HSN.out _ (HE.out _ X.out.bel)).mono ?_;rintro e u1 ⟨nS,mS,rfl,hS9,hb9⟩;have X:=hid (X.out.next hb9);have HSI:=hid hS9;clear hb9 hS9 a0 a1 a2 a3 a4 c0 c1 c2 c3 c4;go_wp2_with fail
   refine (HCP.out _ _ _ (HE.out _ X.out.bel)).mono ?_;rintro e u2 ⟨rfl,hb9⟩;have X:=hid (X.out.next hb9);clear hb9;obtain ⟨x0,x1,x2,x3⟩:=X.out.c4 (i:=2) rfl;obtain ⟨y0,y1,y2,y3⟩:=X.out.f4 (i:=2) rfl;go_wp2
   have X:=hid (X.out.set4 (i:=2) rfl (.bool false) (.string (mag nS)) (.bool false) (.string (dm mS)));obtain ⟨p0,p1,p2,p3⟩:=X.out.c4 (i:=2) rfl;exact bodyPost_ret (v:=.tuple #[.agg #[.bool false,.string (mag nS),.bool false,.string (dm mS)],.int .i64 0]) (by simp [results,Tryz.results108,go_sem,p0,p1,p2,p3]) rfl (HF4.out (by first | rfl | trivial) (by first | rfl | trivial) (by have:=HS0.out;omega) _ _ HSI.out _ _ ⟨rfl,X.out.bel⟩)
theorem sgn_nat (b:Bool) (x u:Nat):sgn b x*(u:Int)=sgn b (x*u):=by
 cases b<;>simp [sgn,Int.neg_mul]
theorem sgn_sum1 (b:Bool) (X Y:Nat):sgn b X+sgn b Y=sgn b (X+Y):=by
 cases b<;>simp [sgn]<;>omega
theorem sgn_sum2 (b:Bool) (X Y:Nat) (h:Y≤X):sgn b X+sgn (!b) Y=sgn b (X-Y):=by
 cases b<;>simp [sgn]<;>omega
theorem sgn_sum3 (b:Bool) (X Y:Nat) (h:X<Y):sgn b X+sgn (!b) Y=sgn (!b) (Y-X):=by
 cases b<;>simp [sgn]<;>omega
theorem Rq.sg {q:Rat} {b:Bool} {m k:ByteArray} (h:Rq q b m k):q.num=sgn b q.num.natAbs:=by
 rw [h.mag.1,sgn_self]
theorem rAdd_f {p q:Rat} {b1 b2 b3:Bool} {m1 m2 m3 k1 k2 k3:ByteArray} (hp:Rq p b1 m1 k1) (hq:Rq q b2 m2 k2) (hr:Rq (p+q) b3 m3 k3) (s1:m1.size≤10000) (s2:m2.size≤10000) (s3:(mag p.den).size≤10000) (s4:(mag q.den).size≤10000) (w:World) :
  Calls prog 77 #[.agg #[.bool b1,.string m1,.bool false,.string k1],.agg #[.bool b2,.string m2,.bool false,.string k2]] w (RetB w (.agg #[.bool b3,.string m3,.bool false,.string k3])):=by
 have e:p+q=mkRat (sgn b1 (p.num.natAbs*q.den)+sgn b2 (q.num.natAbs*p.den)) (p.den*q.den):=by
  rw [Rat.add_def',←sgn_nat,←sgn_nat,←hp.sg,←hq.sg]
 rw [e] at hr;by_cases hb:b2=b1
 · subst hb;rw [sgn_sum1] at hr;exact rAdd_same hp hq hr s1 s2 s3 s4 w
 · have hb2:b2=!b1:=by cases b1<;>cases b2<;>simp_all
   subst hb2;by_cases hle:q.num.natAbs*p.den≤p.num.natAbs*q.den
   · rw [sgn_sum2 _ _ _ hle] at hr;exact rAdd_ge hp hq hr hle s1 s2 s3 s4 w
   · rw [sgn_sum3 _ _ _ om] at hr;exact rAdd_lt hp hq hr om s1 s2 s3 s4 w
theorem Rq.minus {q:Rat} {b:Bool} {m k:ByteArray} (h:Rq q b m k):∃ c,Rq (-q) c m k:=by
 refine ⟨decide (-q.num<0),⟨?_,by rw [Rat.neg_den];exact h.den⟩⟩;rw [Rat.neg_num,h.mag.2];unfold enc;rw [Int.natAbs_neg]
theorem rSub_f {p q:Rat} {b1 b2 b3:Bool} {m1 m2 m3 k1 k2 k3:ByteArray} (hp:Rq p b1 m1 k1) (hq:Rq q b2 m2 k2) (hr:Rq (p-q) b3 m3 k3) (s1:m1.size≤10000) (s2:m2.size≤10000) (s3:(mag p.den).size≤10000) (s4:(mag q.den).size≤10000) (w:World) :
  Calls prog 83 #[.agg #[.bool b1,.string m1,.bool false,.string k1],.agg #[.bool b2,.string m2,.bool false,.string k2]] w (RetB w (.agg #[.bool b3,.string m3,.bool false,.string k3])):=by
 obtain ⟨c,hn⟩:=hq.minus;rw [Rat.sub_eq_add_neg] at hr;have HN:=hid (fun V=>rNeg_f hq hn V);have HA:=hid (fun V=>rAdd_f hp hn hr s1 s2 s3 (by rw [Rat.neg_den];exact s4) V);have X:=hid ((((Sb.start w).new #[.bool b1,.string m1,.bool false,.string k1] 25).new #[.bool b2,.string m2,.bool false,.string k2] 25).new #[.bool false,.string ⟨#[]⟩,.bool false,.string ⟨#[]⟩] 25);have X:=hid (X.out.pick [0,1,2] [(w.heap.size,#[.bool b1,.string m1,.bool false,.string k1],25),(w.heap.size+1,#[.bool b2,.string m2,.bool false,.string k2],25),(w.heap.size+1+1,#[.bool false,.string ⟨#[]⟩,.bool false,.string ⟨#[]⟩],25)] [] (by simp) dc (by simp));clear hp hq hr hn s1 s2 s3 s4;go_enter Tryz.func83,Tryz.ntmps83;go_upto_region 1 with fail
 refine wp_region_late (S:=fun w'=>(w'.cell? ⟨w.heap.size,0,none⟩=some (.bool b1)∧w'.cell? ⟨w.heap.size,1,none⟩=some (.string m1)∧w'.cell? ⟨w.heap.size,2,none⟩=some (.bool false)∧w'.cell? ⟨w.heap.size,3,none⟩=some (.string k1))∧(w'.cell? ⟨w.heap.size+1,0,none⟩=some (.bool b2)∧w'.cell? ⟨w.heap.size+1,1,none⟩=some (.string m2)∧w'.cell? ⟨w.heap.size+1,2,none⟩=some (.bool false)∧w'.cell? ⟨w.heap.size+1,3,none⟩=some (.string k2))) (L:=[]) kx ?_;have X:=hid X.out.drew;obtain ⟨V0,hV⟩:=wexi X.out;rw [←hV] at X ⊢;clear hV;refine tk (i:=0) (oi:=⟨some 5,_,_,_,_,_⟩) (v:=_) rfl kx ix d01 sl ?_;try simp only [Act.put,seti,set0,setS]
 refine tk (i:=1) (oi:=⟨some 6,_,_,_,_,_⟩) (v:=_) rfl kx ix d01 sl ?_;try simp only [Act.put,seti,set0,setS]
 refine wpLate_one (i:=2) (o:=⟨some 7,_,_,_,_,_⟩) kx rfl (fun K hK=>?_);go_simp
 (go_at_call 49;refine (HN.out _).mono ?_;rintro e u1 ⟨rfl,hb9⟩;have X:=hid (X.out.next hb9);clear hb9)
 try go_wp2_with fail
 refine hK.out _ _ c01 ?_;clear hK K;try simp only [Act.put,seti,set0,setS]
 refine wpLate_one (i:=3) (o:=⟨some 8,_,_,_,_,_⟩) kx rfl (fun K hK=>?_);go_simp
 (go_at_call 77;refine (HA.out _).mono ?_;rintro e u2 ⟨rfl,hb9⟩;have X:=hid (X.out.next hb9);clear hb9)
 try go_wp2_with fail
 refine hK.out _ _ c01 ?_;clear hK K;try simp only [Act.put,seti,set0,setS]
 refine wpLate_one (i:=4) (o:=⟨none,_,_,_,_,_⟩) kx rfl (fun K hK=>?_);obtain ⟨x0,x1,x2,x3⟩:=X.out.c4 (i:=2) rfl;obtain ⟨y0,y1,y2,y3⟩:=X.out.f4 (i:=2) rfl;have X:=hid (X.out.set4 (i:=2) rfl (.bool b3) (.string m3) (.bool false) (.string k3));go_simp;refine hK.out _ _ c01 ?_;clear hK K x0 x1 x2 x3 y0 y1 y2 y3;try simp only [Act.put,seti,set0,setS]
 obtain ⟨W3,hV⟩:=wexi X.out;rw [←hV] at X ⊢;clear hV;refine wpLate_done kx ?_ _;go_wp2
 obtain ⟨p0,p1,p2,p3⟩:=X.out.c4 (i:=2) rfl;exact bodyPost_ret (v:=.agg #[.bool b3,.string m3,.bool false,.string k3]) (by simp [results,Tryz.results83,go_sem,p0,p1,p2,p3]) rfl ⟨rfl,X.out.bel⟩
theorem cmpQ_le {p q:Rat}:cmpQ p q≤0↔p≤q:=by
 rw [Rat.le_iff];unfold cmpQ cmpZ
 split
 · exact ⟨fun _=>om,fun _=>by decide⟩
 · split
   · exact ⟨fun h=>absurd h dc,fun h=>om⟩
   · exact ⟨fun _=>om,fun _=>by decide⟩
theorem cmpQ_anti (p q:Rat):cmpQ q p=- cmpQ p q:=by
 unfold cmpQ cmpZ
 split<;>split<;>simp<;>omega
theorem cmpQ_ge {p q:Rat}:0≤cmpQ p q↔q≤p:=by
 have h:=@cmpQ_le q p;rw [cmpQ_anti p q] at h;rw [←h];omega
theorem cmpQ_three (p q:Rat):cmpQ p q=-1∨cmpQ p q=0∨cmpQ p q=1:=by
 exact k118
theorem cmpQ_of {p q r s:Rat} (h1:p≤q↔r≤s) (h2:q≤p↔s≤r):cmpQ p q=cmpQ r s:=by
 have h3:=cmpQ_three p q;have h4:=cmpQ_three r s;have h5:cmpQ p q≤0↔cmpQ r s≤0:=cmpQ_le.trans (h1.trans cmpQ_le.symm);have h6:0≤cmpQ p q↔0≤cmpQ r s:=cmpQ_ge.trans (h2.trans cmpQ_ge.symm);omega
theorem sign_cmp (q:Rat):q.num.sign=cmpQ q 0:=by
 unfold cmpQ;rw [show (0:Rat).den=1 from rfl,show (0:Rat).num=0 from rfl,Int.zero_mul,Int.natCast_one,Int.mul_one];rcases Int.lt_trichotomy q.num 0 with h | h | h
 · rw [cmpZ_lt h,Int.sign_eq_neg_one_of_neg h]
 · rw [cmpZ_eq0 h,h];rfl
 · rw [cmpZ_gt h,Int.sign_eq_one_of_pos h]
theorem cmpQ_sub (p q:Rat):(p-q).num.sign=cmpQ p q:=by
 rw [sign_cmp];refine cmpQ_of ?_ ?_
 · rw [←Rat.not_lt,←Rat.not_lt,Rat.lt_iff_sub_pos q p]
 · rw [Rat.le_iff_sub_nonneg q p]
theorem rCompare_f {p q:Rat} {b1 b2:Bool} {m1 m2 k1 k2:ByteArray} (hp:Rq p b1 m1 k1) (hq:Rq q b2 m2 k2) (s1:m1.size≤10000) (s2:m2.size≤10000) (s3:(mag p.den).size≤10000) (s4:(mag q.den).size≤10000) (w:World) :
  Calls prog 140 #[.agg #[.bool b1,.string m1,.bool false,.string k1],.agg #[.bool b2,.string m2,.bool false,.string k2]] w (RetB w (.int .i64 (cmpQ p q))):=by
 obtain ⟨b3,m3,k3,hd⟩:=Rq.some_ (p-q);have HS:=hid (fun V=>rSub_f hp hq hd s1 s2 s3 s4 V);have hg:=fun V=>rSign_f hd V
 rw [cmpQ_sub] at hg;have HG:=hid hg;have X:=hid (((Sb.start w).new #[.bool b1,.string m1,.bool false,.string k1] 25).new #[.bool b2,.string m2,.bool false,.string k2] 25);have X:=hid (X.out.pick [0,1] [(w.heap.size,#[.bool b1,.string m1,.bool false,.string k1],25),(w.heap.size+1,#[.bool b2,.string m2,.bool false,.string k2],25)] [] (by simp) dc (by simp));clear hp hq hd hg;go_enter Tryz.func140,Tryz.ntmps140;obtain ⟨a0,a1,a2,a3⟩:=X.out.c4 (i:=0) rfl;obtain ⟨c0,c1,c2,c3⟩:=X.out.c4 (i:=1) rfl;go_wp2_with fail
 refine (HS.out _).mono ?_;rintro e u1 ⟨rfl,hb9⟩;have X:=hid (X.out.next hb9);clear hb9;go_wp2_with fail
 refine (HG.out _).mono ?_;rintro e u2 ⟨rfl,hb9⟩;have X:=hid (X.out.next hb9);clear hb9;go_wp2
 go_ret
 exact ⟨rfl,X.out.bel⟩
end Go.Proofs.YtpnokfgplnmjpaaGreatDoor
namespace Go.Proofs.YtpnokfgplnmjpaaGreatDoor
open Go.RowKit
section
variable {w W:World} {l:List (Nat×Array Value×TypeId)} {rs:List (Option Addr×Nat×Nat×Nat)} {g:Nat} {T:TypeId}
theorem Sb.c9 (h:Sb w l rs W) {i:Nat} {x0 x1 x2 x3 x4 x5 x6 x7 x8:Value} (hl:l[i]?=some (g,#[x0,x1,x2,x3,x4,x5,x6,x7,x8],T)):W.cell? ⟨g,0,none⟩=some x0∧W.cell? ⟨g,1,none⟩=some x1∧W.cell? ⟨g,2,none⟩=some x2∧W.cell? ⟨g,3,none⟩=some x3∧W.cell? ⟨g,4,none⟩=some x4∧W.cell? ⟨g,5,none⟩=some x5∧W.cell? ⟨g,6,none⟩=some x6∧W.cell? ⟨g,7,none⟩=some x7∧W.cell? ⟨g,8,none⟩=some x8:=by
 have hk:=h.at hl;refine ⟨?_,?_,?_,?_,?_,?_,?_,?_,?_⟩<;>simp [World.cell?,hk]
end
structure Rv (x:Sg.Rl) (b:Bool) (m k:ByteArray) (c:Bool) (n l:ByteArray) (s:Bool):Prop where
 p:Rq x.p b m k
 r:Rq x.a c n l
 neg:s=decide (x.s<0)
structure Rz (n:Nat) (x:Sg.Rl):Prop where
 p:Sz n x.p
 r:Sz n x.a
theorem Rv.some_ (x:Sg.Rl):∃ b m k c n l s,Rv x b m k c n l s:=⟨_,_,_,_,_,_,_,⟨rfl,rfl⟩,⟨rfl,rfl⟩,rfl⟩
theorem Sz.up {n m:Nat} {q:Rat} (h:Sz n q) (hm:n≤m):Sz m q:=⟨Nat.lt_of_lt_of_le h.1 (Nat.pow_le_pow_right dc hm),Nat.lt_of_lt_of_le h.2 (Nat.pow_le_pow_right dc hm)⟩
theorem Sz.zero (n:Nat):Sz (n+1) 0:=⟨Nat.pow_pos dc,by show 1<256^(n+1);rw [Nat.pow_succ];have:=Nat.pow_pos (a:=256) (n:=n) dc;omega⟩
theorem num_neg_iff {q:Rat}:q.num<0↔q<0:=by rw [←Int.not_le,Rat.num_nonneg,Rat.not_le]
theorem num_pos_iff {q:Rat}:0<q.num↔0<q:=by
 have h1:=Rat.num_nonneg (q:=q);have h2:=Rat.num_eq_zero (q:=q);constructor<;>intro h
 · have:0≤q:=h1.1 om;have:q≠0:=fun e=>by rw [h2.2 e] at h;omega
   grind
 · have h3:0≤q.num:=h1.2 (by grind);have h4:q.num≠0:=fun e=>by have:=h2.1 e;grind
   omega
theorem sgq_num (q:Rat):Sg.sgq q=q.num.sign:=by
 rcases Sg.sgq_three q with ⟨h,e⟩ | ⟨h,e⟩ | ⟨h,e⟩
 · rw [e,Int.sign_eq_neg_one_of_neg (num_neg_iff.2 h)]
 · rw [e,h];rfl
 · rw [e,Int.sign_eq_one_of_pos (num_pos_iff.2 h)]
theorem sgq_cmp (p q:Rat):Sg.sgq (p-q)=cmpQ p q:=by rw [sgq_num,cmpQ_sub]
theorem Rq.zero:Rq 0 false ⟨#[]⟩ ⟨#[]⟩:=⟨by rw [show (0:Rat).num=0 from rfl];exact enc_nought,by rw [show (0:Rat).den=1 from rfl];exact dm_one.symm⟩
theorem Rq.nought {q:Rat} {b:Bool} {m k:ByteArray} (h:Rq q b m k):q=0↔(b=false∧m=⟨#[]⟩∧k=⟨#[]⟩):=by
 constructor
 · rintro rfl;exact h.inj Rq.zero
 · rintro ⟨rfl,rfl,rfl⟩;exact h.eq_of Rq.zero
end Go.Proofs.YtpnokfgplnmjpaaGreatDoor
namespace Go.Proofs.YtpnokfgplnmjpaaGreatDoor
open Go.RowKit
attribute [local go_sem ↓] Go.wp_at_zero Go.wp_at_succ
theorem mul_z {p q:Rat} {b1 b2:Bool} {m1 m2 k1 k2:ByteArray} {b3:Bool} {m3 k3:ByteArray} (hp:Rq p b1 m1 k1) (hq:Rq q b2 m2 k2) (hr:Rq (p*q) b3 m3 k3) (zp:Sz 10000 p) (zq:Sz 10000 q) (w:World) (hE:Env w) :
 Calls prog 75 #[.agg #[.bool b1,.string m1,.bool false,.string k1],.agg #[.bool b2,.string m2,.bool false,.string k2]] w (RetB w (.agg #[.bool b3,.string m3,.bool false,.string k3])):=ratMul_f hp hq hr (zp.m hp (Nat.le_refl _)).1 (zq.m hq (Nat.le_refl _)).1 (zp.m hp (Nat.le_refl _)).2 (zq.m hq (Nat.le_refl _)).2 w hE
theorem rmul_z {p q:Rat} {b1 b2:Bool} {m1 m2 k1 k2:ByteArray} {b3:Bool} {m3 k3:ByteArray} (hp:Rq p b1 m1 k1) (hq:Rq q b2 m2 k2) (hr:Rq (p*q) b3 m3 k3) (zp:Sz 10000 p) (zq:Sz 10000 q) (w:World) :
 Calls prog 78 #[.agg #[.bool b1,.string m1,.bool false,.string k1],.agg #[.bool b2,.string m2,.bool false,.string k2]] w (RetB w (.agg #[.bool b3,.string m3,.bool false,.string k3])):=rMul_f hp hq hr (zp.m hp (Nat.le_refl _)).1 (zq.m hq (Nat.le_refl _)).1 (zp.m hp (Nat.le_refl _)).2 (zq.m hq (Nat.le_refl _)).2 w
theorem add_z {p q:Rat} {b1 b2:Bool} {m1 m2 k1 k2:ByteArray} {b3:Bool} {m3 k3:ByteArray} (hp:Rq p b1 m1 k1) (hq:Rq q b2 m2 k2) (hr:Rq (p+q) b3 m3 k3) (zp:Sz 10000 p) (zq:Sz 10000 q) (w:World) (hE:Env w) :
 Calls prog 89 #[.agg #[.bool b1,.string m1,.bool false,.string k1],.agg #[.bool b2,.string m2,.bool false,.string k2]] w (RetB w (.agg #[.bool b3,.string m3,.bool false,.string k3])):=ratAdd_f hp hq hr (zp.m hp (Nat.le_refl _)).1 (zq.m hq (Nat.le_refl _)).1 (zp.m hp (Nat.le_refl _)).2 (zq.m hq (Nat.le_refl _)).2 w hE
theorem radd_z {p q:Rat} {b1 b2:Bool} {m1 m2 k1 k2:ByteArray} {b3:Bool} {m3 k3:ByteArray} (hp:Rq p b1 m1 k1) (hq:Rq q b2 m2 k2) (hr:Rq (p+q) b3 m3 k3) (zp:Sz 10000 p) (zq:Sz 10000 q) (w:World) :
 Calls prog 77 #[.agg #[.bool b1,.string m1,.bool false,.string k1],.agg #[.bool b2,.string m2,.bool false,.string k2]] w (RetB w (.agg #[.bool b3,.string m3,.bool false,.string k3])):=rAdd_f hp hq hr (zp.m hp (Nat.le_refl _)).1 (zq.m hq (Nat.le_refl _)).1 (zp.m hp (Nat.le_refl _)).2 (zq.m hq (Nat.le_refl _)).2 w
theorem sub_z {p q:Rat} {b1 b2:Bool} {m1 m2 k1 k2:ByteArray} {b3:Bool} {m3 k3:ByteArray} (hp:Rq p b1 m1 k1) (hq:Rq q b2 m2 k2) (hr:Rq (p-q) b3 m3 k3) (zp:Sz 10000 p) (zq:Sz 10000 q) (w:World) (hE:Env w) :
 Calls prog 81 #[.agg #[.bool b1,.string m1,.bool false,.string k1],.agg #[.bool b2,.string m2,.bool false,.string k2]] w (RetB w (.agg #[.bool b3,.string m3,.bool false,.string k3])):=ratSub_f hp hq hr (zp.m hp (Nat.le_refl _)).1 (zq.m hq (Nat.le_refl _)).1 (zp.m hp (Nat.le_refl _)).2 (zq.m hq (Nat.le_refl _)).2 w hE
theorem rsub_z {p q:Rat} {b1 b2:Bool} {m1 m2 k1 k2:ByteArray} {b3:Bool} {m3 k3:ByteArray} (hp:Rq p b1 m1 k1) (hq:Rq q b2 m2 k2) (hr:Rq (p-q) b3 m3 k3) (zp:Sz 10000 p) (zq:Sz 10000 q) (w:World) :
 Calls prog 83 #[.agg #[.bool b1,.string m1,.bool false,.string k1],.agg #[.bool b2,.string m2,.bool false,.string k2]] w (RetB w (.agg #[.bool b3,.string m3,.bool false,.string k3])):=rSub_f hp hq hr (zp.m hp (Nat.le_refl _)).1 (zq.m hq (Nat.le_refl _)).1 (zp.m hp (Nat.le_refl _)).2 (zq.m hq (Nat.le_refl _)).2 w
theorem div_z {p q:Rat} {b1 b2:Bool} {m1 m2 k1 k2:ByteArray} {b3:Bool} {m3 k3:ByteArray} (hp:Rq p b1 m1 k1) (hq:Rq q b2 m2 k2) (hr:Rq (p / q) b3 m3 k3) (h0:q.num≠0) (zp:Sz 10000 p) (zq:Sz 10000 q) (w:World) (hE:Env w) :
 Calls prog 136 #[.agg #[.bool b1,.string m1,.bool false,.string k1],.agg #[.bool b2,.string m2,.bool false,.string k2]] w (RetB w (.tuple #[.agg #[.bool b3,.string m3,.bool false,.string k3],.int .i64 0])):=ratDiv_f hp hq hr h0 (zp.m hp (Nat.le_refl _)).1 (zq.m hq (Nat.le_refl _)).1 (zp.m hp (Nat.le_refl _)).2 (zq.m hq (Nat.le_refl _)).2 w hE
theorem rdiv_z {p q:Rat} {b1 b2:Bool} {m1 m2 k1 k2:ByteArray} {b3:Bool} {m3 k3:ByteArray} (hp:Rq p b1 m1 k1) (hq:Rq q b2 m2 k2) (hr:Rq (p / q) b3 m3 k3) (h0:q.num≠0) (zp:Sz 10000 p) (zq:Sz 10000 q) (w:World) :
 Calls prog 82 #[.agg #[.bool b1,.string m1,.bool false,.string k1],.agg #[.bool b2,.string m2,.bool false,.string k2]] w (RetB w (.agg #[.bool b3,.string m3,.bool false,.string k3])):=rDiv_f hp hq hr h0 (zp.m hp (Nat.le_refl _)).1 (zq.m hq (Nat.le_refl _)).1 (zp.m hp (Nat.le_refl _)).2 (zq.m hq (Nat.le_refl _)).2 w
theorem cmp_z {p q:Rat} {b1 b2:Bool} {m1 m2 k1 k2:ByteArray} (hp:Rq p b1 m1 k1) (hq:Rq q b2 m2 k2) (zp:Sz 10000 p) (zq:Sz 10000 q) (w:World) (hE:Env w) :
  Calls prog 86 #[.agg #[.bool b1,.string m1,.bool false,.string k1],.agg #[.bool b2,.string m2,.bool false,.string k2]] w (RetB w (.int .i64 (Sg.sgq (p-q)))):=by
 rw [sgq_cmp];exact ratCompare_f hp hq (zp.m hp (Nat.le_refl _)).1 (zq.m hq (Nat.le_refl _)).1 (zp.m hp (Nat.le_refl _)).2 (zq.m hq (Nat.le_refl _)).2 w hE
theorem rcmp_z {p q:Rat} {b1 b2:Bool} {m1 m2 k1 k2:ByteArray} (hp:Rq p b1 m1 k1) (hq:Rq q b2 m2 k2) (zp:Sz 10000 p) (zq:Sz 10000 q) (w:World) :
  Calls prog 140 #[.agg #[.bool b1,.string m1,.bool false,.string k1],.agg #[.bool b2,.string m2,.bool false,.string k2]] w (RetB w (.int .i64 (Sg.sgq (p-q)))):=by
 rw [sgq_cmp];exact rCompare_f hp hq (zp.m hp (Nat.le_refl _)).1 (zq.m hq (Nat.le_refl _)).1 (zp.m hp (Nat.le_refl _)).2 (zq.m hq (Nat.le_refl _)).2 w
theorem sign_z {q:Rat} {b:Bool} {m k:ByteArray} (h:Rq q b m k) (w:World):Calls prog 71 #[.agg #[.bool b,.string m,.bool false,.string k]] w (RetB w (.int .i64 (Sg.sgq q))):=by
 rw [sgq_num];exact ratSign_f h w
theorem rsign_z {q:Rat} {b:Bool} {m k:ByteArray} (h:Rq q b m k) (w:World):Calls prog 28 #[.agg #[.bool b,.string m,.bool false,.string k]] w (RetB w (.int .i64 (Sg.sgq q))):=by
 rw [sgq_num];exact rSign_f h w
theorem Sz.sub {n m:Nat} {p q:Rat} (hp:Sz n p) (hq:Sz m q):Sz (n+m+1) (p-q):=by
 rw [Rat.sub_eq_add_neg];exact hp.add hq.minus
theorem sq_parts (q:Rat):(q*q).num=((q.num.natAbs*q.num.natAbs:Nat):Int)∧(q*q).den=q.den*q.den:=by
 rw [Rat.mul_def'];obtain ⟨h1,h2⟩:=mkRat_parts (q.num*q.num) (d:=q.den*q.den) (Nat.mul_ne_zero q.den_nz q.den_nz)
 have hc:Nat.gcd (q.num*q.num).natAbs (q.den*q.den)=1:=by
  rw [Int.natAbs_mul];have h:=q.reduced;exact Nat.Coprime.gcd_eq_one (Nat.Coprime.mul_left (Nat.Coprime.mul_right h h) (Nat.Coprime.mul_right h h))
 rw [hc] at h1 h2;rw [h1,h2];refine ⟨?_,Nat.div_one _⟩;rw [Int.natCast_one,Int.ediv_one,Int.natCast_mul];exact (Int.natAbs_mul_self' q.num).symm
theorem rq_nat {X Y:Nat} (hY:0<Y) (hc:Nat.gcd X Y=1):Rq (mkRat (sgn false X) Y) false (mag X) (dm Y) :=
 Rq.of_mk hY (by rw [hc,Nat.div_one];exact enc_mag X) (by rw [hc,Nat.div_one])
theorem root_cop {N D r s:Nat} (h1:r*r=N) (h2:s*s=D) (h:Nat.Coprime N D):Nat.gcd r s=1:=by
 rw [←h1,←h2] at h;exact Nat.Coprime.gcd_eq_one (Nat.Coprime.coprime_mul_right_right (Nat.Coprime.coprime_mul_right h))
end Go.Proofs.YtpnokfgplnmjpaaGreatDoor
