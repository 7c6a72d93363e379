import Derived.Test.YtpnokfgplnmjpaaGreatDoorGRHE
import Derived.Test.YtpnokfgplnmjpaaGreatDoorGRMK
set_option linter.unusedSimpArgs false
set_option linter.unusedVariables false

namespace Go.Proofs.YtpnokfgplnmjpaaGreatDoor
open Go.RowKit

theorem ftext_60 {q:Rat} (z:Sz 60 q):(ftext q).length≤400:=by
 have h:(256:Nat)^60≤10^(149+1):=by decide
 have:=ftext_len (n:=149) (Nat.lt_of_lt_of_le z.1 h) (Nat.lt_of_lt_of_le z.2 h)
 omega
theorem ftext_8 {q:Rat} (z:Sz 8 q):(ftext q).length≤42:=by
 have h:(256:Nat)^8≤10^(19+1):=by decide
 exact ftext_len (n:=19) (Nat.lt_of_lt_of_le z.1 h) (Nat.lt_of_lt_of_le z.2 h)
theorem rtext_len {x:Sg.Rl} {n:Nat} (h1:(ftext x.p).length≤n) (h2:(ftext x.a).length≤n):(rtext x).length≤2*n+7:=by
 unfold rtext
 split
 · omega
 · simp only [List.length_append,List.length_cons,List.length_nil];omega
theorem rtext_rat {x:Sg.Rl} (h:x.a=0):rtext x=ftext x.p:=by unfold rtext;rw [if_pos h]
theorem rtext_irr {x:Sg.Rl} (h:x.a≠0):rtext x=(ftext x.p++[if x.s<0 then 45 else 43])++([115,113,114,116,40]++(ftext x.a++[41])):=by unfold rtext;rw [if_neg h]

theorem pprint_f {x:Sg.Rl} {b1 c1 s1:Bool} {m1 k1 n1 l1:ByteArray} (hx:Rv x b1 m1 k1 c1 n1 l1 s1) (ok:x.Ok) (z:Rz 60 x) (w:World) (hE:EnvM w) :
  Calls Tryz.prog 63 #[.agg #[.bool b1,.string m1,.bool false,.string k1,.bool c1,.string n1,.bool false,.string l1,.bool s1]] w (RetB w (.string ⟨(rtext x).toArray⟩)):=by
 have t1:=ftext_60 z.p
 have t2:=ftext_60 z.r
 by_cases h0:x.a=0
 · have hr:=hx.r
   rw [h0] at hr
   obtain ⟨rfl,rfl,rfl⟩:=hr.nought.1 rfl
   obtain rfl:s1=false:=by rw [hx.neg];exact ok_sign ok h0
   rw [rtext_rat h0]
   exact print_rat w (fun V _=>isRat_yes _ _ _ _ V) (fun V hb=>print_f hx.p z.p V (hE.next hb).env)
 · rw [rtext_irr h0]
   have hs:=hx.neg
   cases s1
   · have h1:¬x.s<0:=of_decide_eq_false hs.symm
     rw [if_neg h1]
     have h:=print_irr_false w (t:=⟨(ftext x.p).toArray⟩) (v:=⟨(ftext x.a).toArray⟩) (by rw [list_size];omega) (by rw [list_size];omega) (fun V _=>isRat_no hx h0 V) (fun V hb=>print_f hx.p z.p V (hE.next hb).env) (fun V hb=>print_f hx.r z.r V (hE.next hb).env)
     have e:((((⟨(ftext x.p).toArray⟩++⟨#[43]⟩)++⟨#[115,113,114,116,40]⟩)++⟨(ftext x.a).toArray⟩)++⟨#[41]⟩:ByteArray)=⟨((ftext x.p++[43])++([115,113,114,116,40]++(ftext x.a++[41]))).toArray⟩:=by
      apply ByteArray.ext
      simp
     rwa [e] at h
   · have h1:x.s<0:=of_decide_eq_true hs.symm
     rw [if_pos h1]
     have h:=print_irr_true w (t:=⟨(ftext x.p).toArray⟩) (v:=⟨(ftext x.a).toArray⟩) (by rw [list_size];omega) (by rw [list_size];omega) (fun V _=>isRat_no hx h0 V) (fun V hb=>print_f hx.p z.p V (hE.next hb).env) (fun V hb=>print_f hx.r z.r V (hE.next hb).env)
     have e:((((⟨(ftext x.p).toArray⟩++⟨#[45]⟩)++⟨#[115,113,114,116,40]⟩)++⟨(ftext x.a).toArray⟩)++⟨#[41]⟩:ByteArray)=⟨((ftext x.p++[45])++([115,113,114,116,40]++(ftext x.a++[41]))).toArray⟩:=by
      apply ByteArray.ext
      simp
     rwa [e] at h
theorem fprint_f {x:Sg.Rl} {b1 c1 s1:Bool} {m1 k1 n1 l1:ByteArray} (hx:Rv x b1 m1 k1 c1 n1 l1 s1) (ok:x.Ok) (z:Rz 60 x) (w:World) :
  Calls Tryz.prog 65 #[.agg #[.bool b1,.string m1,.bool false,.string k1,.bool c1,.string n1,.bool false,.string l1,.bool s1]] w (RetB w (.string ⟨(rtext x).toArray⟩)):=by
 have t1:=ftext_60 z.p
 have t2:=ftext_60 z.r
 by_cases h0:x.a=0
 · have hr:=hx.r
   rw [h0] at hr
   obtain ⟨rfl,rfl,rfl⟩:=hr.nought.1 rfl
   obtain rfl:s1=false:=by rw [hx.neg];exact ok_sign ok h0
   rw [rtext_rat h0]
   exact fprint_rat w (fun V _=>rprint_f hx.p z.p V) (fun V _=>zero_any V)
 · rw [rtext_irr h0]
   have hs:=hx.neg
   cases s1
   · have h1:¬x.s<0:=of_decide_eq_false hs.symm
     rw [if_neg h1]
     have h:=fprint_irr_false w (t:=⟨(ftext x.p).toArray⟩) (v:=⟨(ftext x.a).toArray⟩) (by rw [list_size];omega) (by rw [list_size];omega) (hx.r.ne h0) (fun V _=>rprint_f hx.p z.p V) (fun V _=>zero_any V) (fun V _=>rprint_f hx.r z.r V)
     have e:(((⟨(ftext x.p).toArray⟩++⟨#[43,115,113,114,116,40]⟩)++⟨(ftext x.a).toArray⟩)++⟨#[41]⟩:ByteArray)=⟨((ftext x.p++[43])++([115,113,114,116,40]++(ftext x.a++[41]))).toArray⟩:=by
      apply ByteArray.ext
      simp
     rwa [e] at h
   · have h1:x.s<0:=of_decide_eq_true hs.symm
     rw [if_pos h1]
     have h:=fprint_irr_true w (t:=⟨(ftext x.p).toArray⟩) (v:=⟨(ftext x.a).toArray⟩) (by rw [list_size];omega) (by rw [list_size];omega) (hx.r.ne h0) (fun V _=>rprint_f hx.p z.p V) (fun V _=>zero_any V) (fun V _=>rprint_f hx.r z.r V)
     have e:(((⟨(ftext x.p).toArray⟩++⟨#[45,115,113,114,116,40]⟩)++⟨(ftext x.a).toArray⟩)++⟨#[41]⟩:ByteArray)=⟨((ftext x.p++[45])++([115,113,114,116,40]++(ftext x.a++[41]))).toArray⟩:=by
      apply ByteArray.ext
      simp
     rwa [e] at h

theorem parse_text {x:Sg.Rl} {b1 c1 s1:Bool} {m1 k1 n1 l1:ByteArray} (hx:Rv x b1 m1 k1 c1 n1 l1 s1) (ok:x.Ok) (z:Rz 60 x) {s:ByteArray} (hs:s.data.toList=rtext x) (hl:(ftext x.p).length≤64∧(ftext x.a).length≤64) (w:World) (hE:EnvM w) :
  Calls Tryz.prog 64 #[.string s] w (RetB w (.tuple #[.agg #[.bool b1,.string m1,.bool false,.string k1,.bool c1,.string n1,.bool false,.string l1,.bool s1],.int .i64 0])):=by
 have hsz:s.size≤4096:=by rw [←size_list,hs];have:=rtext_len hl.1 hl.2;omega
 have hse:s=⟨(rtext x).toArray⟩:=by rw [←hs]
 have hc:=rtext_cut x
 rw [←hs] at hc
 have hread:∀ w,EnvM w→Calls Tryz.prog 116 #[.string s] w (RetB w (.agg #[.bool b1,.string m1,.bool false,.string k1,.bool c1,.string n1,.bool false,.string l1,.bool s1])):=by
  by_cases h0:x.a=0
  · rw [if_pos h0] at hc
    obtain ⟨p,r,b2,m2,k2,c2,n2,l2,s2,hp,hr,-,-,hv,hR⟩:=read_any s hsz hc (fun _=>by rw [←size_list,hs,rtext_rat h0];exact hl.1) (fun h=>by cases h)
    obtain ⟨rfl,rfl,rfl⟩:=hv x ok hs
    obtain ⟨rfl,rfl,rfl⟩:=hp.inj hx.p
    obtain ⟨rfl,rfl,rfl⟩:=hr.inj hx.r
    rw [hx.neg]
    exact hR
  · rw [if_neg h0] at hc
    obtain ⟨p,r,b2,m2,k2,c2,n2,l2,s2,hp,hr,-,-,hv,hR⟩:=read_any s hsz hc (fun h=>by cases h) (fun _=>⟨by rw [(sign_cut x).1];exact hl.1,by rw [(suffix_at _ _).1];exact hl.2⟩)
    obtain ⟨rfl,rfl,rfl⟩:=hv x ok hs
    obtain ⟨rfl,rfl,rfl⟩:=hp.inj hx.p
    obtain ⟨rfl,rfl,rfl⟩:=hr.inj hx.r
    rw [hx.neg]
    exact hR
 refine parse_ok3 w (fun V hb=>hread V (hE.next hb)) (fun V hb=>rchk_ok hx ok ⟨z.p.up (by omega),z.r.up (by omega)⟩ V (hE.next hb).env.env) (fun V hb=>?_)
 rw [hse]
 exact pprint_f hx ok z V (hE.next hb)

theorem prints_all (b1:Bool) (m1:ByteArray) (d1:Bool) (k1:ByteArray) (c1:Bool) (n1:ByteArray) (e1:Bool) (l1:ByteArray) (s1:Bool) (tm1:m1.size≤140737488351232) (tk1:k1.size≤140737488351232) (tn1:n1.size≤140737488351232) (tl1:l1.size≤140737488351232) (w:World) (hE:EnvM w):Calls Tryz.prog 13 #[.agg #[.bool b1,.string m1,.bool d1,.string k1,.bool c1,.string n1,.bool e1,.string l1,.bool s1]] w (RetB w (.bool true)):=by
 obtain ⟨o1,H1,P1⟩:=small_or b1 d1 c1 e1 s1 m1 k1 n1 l1 tm1 tk1 tn1 tl1
 have HK:=fun V (hb:Below w.heap.size w V)=>rknown3 V (hE.next hb).env.env
 cases o1
 · exact prints_no w HK (fun V _=>H1 V)
 obtain ⟨rfl,rfl,x,ok,hx,zx⟩:=P1 rfl
 have z:Rz 60 x:=⟨zx.p.up (by omega),zx.r.up (by omega)⟩
 have l1:=ftext_8 zx.p
 have l2:=ftext_8 zx.r
 exact prints_yes w HK (fun V _=>H1 V) (fun V hb=>pprint_f hx ok z V (hE.next hb)) (fun V hb=>parse_text hx ok z rfl ⟨by omega,by omega⟩ V (hE.next hb)) (fun V _=>fprint_f hx ok z V)
end Go.Proofs.YtpnokfgplnmjpaaGreatDoor
