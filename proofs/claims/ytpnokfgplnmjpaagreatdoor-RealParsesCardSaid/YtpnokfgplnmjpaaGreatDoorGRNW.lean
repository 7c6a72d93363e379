import Derived.Test.YtpnokfgplnmjpaaGreatDoorGRLR
import Derived.Test.YtpnokfgplnmjpaaGreatDoorGRLV
set_option linter.unusedSimpArgs false
set_option linter.unusedVariables false

namespace Go.Proofs.YtpnokfgplnmjpaaGreatDoor
open Go.RowKit

theorem chk_dec {p r:Rat} {b1 c1:Bool} {m1 k1 n1 l1:ByteArray} (s1:Bool) (hp:Rq p b1 m1 k1) (hr:Rq r c1 n1 l1) (zp:Sz 60 p) (zr:Sz 60 r) :
  ((∃ x:Sg.Rl,x.Ok∧Rv x b1 m1 k1 c1 n1 l1 s1)∧(∀ w,Calls Tryz.prog 17 #[.agg #[.bool b1,.string m1,.bool false,.string k1,.bool c1,.string n1,.bool false,.string l1,.bool s1]] w (RetB w (.bool true)))∧(∀ w,Env w→Calls Tryz.prog 18 #[.agg #[.bool b1,.string m1,.bool false,.string k1,.bool c1,.string n1,.bool false,.string l1,.bool s1]] w (RetB w (.int .i64 0)))) ∨
  ((¬∃ x:Sg.Rl,x.Ok∧Rv x b1 m1 k1 c1 n1 l1 s1)∧(∀ w,Calls Tryz.prog 17 #[.agg #[.bool b1,.string m1,.bool false,.string k1,.bool c1,.string n1,.bool false,.string l1,.bool s1]] w (RetB w (.bool false)))∧(∀ w,Env w→Calls Tryz.prog 18 #[.agg #[.bool b1,.string m1,.bool false,.string k1,.bool c1,.string n1,.bool false,.string l1,.bool s1]] w (RetB w (.int .i64 5)))):=by
 have yp:=zp.m hp (by omega)
 have yr:=zr.m hr (by omega)
 have k1s:k1.size≤100000:=Nat.le_trans (hp.dsize yp.2) (by omega)
 have k2s:l1.size≤100000:=Nat.le_trans (hr.dsize yr.2) (by omega)
 have C1:=fun (w V:World) (_:Below w.heap.size w V)=>rCheck_yes hp (by omega) k1s V
 have C2:=fun (w V:World) (_:Below w.heap.size w V)=>rCheck_yes hr (by omega) k2s V
 have C3:=fun (w V:World) (_:Below w.heap.size w V)=>rsign_z hr V
 have D1:=fun (w:World) (hE:Env w) V (hb:Below w.heap.size w V)=>ratCheck_f hp (by omega) k1s V (hE.next hb)
 have D2:=fun (w:World) (hE:Env w) V (hb:Below w.heap.size w V)=>ratCheck_f hr (by omega) k2s V (hE.next hb)
 have D3:=fun (w V:World) (_:Below w.heap.size w V)=>sign_z hr V
 have zr':Sz 9000 r:=zr.up (by omega)
 have zp':Sz 9000 p:=zp.up (by omega)
 rcases Sg.sgq_three r with ⟨g,e⟩ | ⟨g,e⟩ | ⟨g,e⟩
 · obtain rfl:c1=true:=by rw [hr.mag.1];exact decide_eq_true (num_neg_iff.2 g)
   rw [e] at C3 D3
   exact .inr ⟨fun ⟨x,ok,hx⟩=>by have h1:=hr.eq_of hx.r;rcases Sg.ok_cases ok with ⟨h2,_⟩ | ⟨h2,_⟩<;>grind,fun w=>fchk_neg w (C1 w) (C2 w) (C3 w) (fun V _=>zero_any V),fun w hE=>pchk_neg w (D1 w hE) (D2 w hE) (fun V _=>isRat_any _ _ _ _ _ _ _ (hr.ne (by grind)) V) (D3 w)⟩
 · obtain ⟨rfl,rfl,rfl⟩:=hr.nought.1 g
   rw [e] at C3
   cases s1
   · exact .inl ⟨⟨⟨p,0,1⟩,⟨.inl rfl,.inl ⟨rfl,rfl⟩⟩,⟨hp,Rq.zero,rfl⟩⟩,fun w=>fchk_zero w (C1 w) (C2 w) (C3 w) (fun V _=>zero_any V),fun w hE=>rchk_rat hp (zp.up (by omega)) w hE⟩
   · refine .inr ⟨fun ⟨x,ok,hx⟩=>?_,fun w=>fchk_zero w (C1 w) (C2 w) (C3 w) (fun V _=>zero_any V),fun w hE=>pchk_minus w (D1 w hE) (D2 w hE) (fun V _=>isRat_yes _ _ _ _ V)⟩
     have h1:x.a=0:=hx.r.nought.2 ⟨rfl,rfl,rfl⟩
     have h2:=ok_sign ok h1
     rw [←hx.neg] at h2
     cases h2
 · rw [e] at C3 D3
   obtain rfl:=bool_of hr g
   by_cases hs:Sg.Sq r
   · obtain ⟨b2,m2,k2,h2⟩:=Rq.some_ (Sg.rt r)
     exact .inr ⟨fun ⟨x,ok,hx⟩=>by
      have h1:=hr.eq_of hx.r
      rcases Sg.ok_cases ok with ⟨h3,_⟩ | ⟨_,h3⟩
      · grind
      · rw [←h1] at h3;exact absurd hs h3,fun w=>fchk_pos w (C1 w) (C2 w) (C3 w) (fun V _=>(root_yes_z hr zr' hs h2).2 V),fun w hE=>pchk_sq w (D1 w hE) (D2 w hE) (fun V _=>isRat_any _ _ _ _ _ _ _ (hr.ne (by grind)) V) (D3 w) (fun V hb=>(root_yes_z hr zr' hs h2).1 V (hE.next hb))⟩
   · have hx:Rv ⟨p,r,if s1 then -1 else 1⟩ b1 m1 k1 false n1 l1 s1:=⟨hp,hr,by cases s1<;>simp⟩
     refine .inl ⟨⟨⟨p,r,if s1 then -1 else 1⟩,⟨?_,.inr ⟨g,Sg.nsq_sq.2 hs⟩⟩,hx⟩,fun w=>fchk_pos w (C1 w) (C2 w) (C3 w) (fun V _=>(root_no_z hr zr' hs).2 V),fun w hE=>rchk_irr hx g hs ⟨zp',zr'⟩ w hE⟩
     cases s1<;>simp

theorem rtext_same {x y:Sg.Rl} (h1:x.p=y.p) (h2:x.a=y.a) (h3:decide (x.s<0)=decide (y.s<0)):rtext x=rtext y:=by
 unfold rtext
 have h4:(x.s<0)↔(y.s<0):=by simpa using h3
 rw [h1,h2]
 simp only [h4]
theorem toArray_data (s:ByteArray):(⟨s.data.toList.toArray⟩:ByteArray)=s:=by
 apply ByteArray.ext
 simp
theorem text_eq {s:ByteArray} {l:List UInt8}:s.data.toList=l↔(⟨l.toArray⟩:ByteArray)=s:=by
 constructor
 · rintro rfl;exact toArray_data s
 · rintro rfl;rfl

theorem pparse_any (s:ByteArray) (hs:s.size≤60) :
  (∃ (x:Sg.Rl) (b1:Bool) (m1 k1:ByteArray) (c1:Bool) (n1 l1:ByteArray) (s1:Bool),x.Ok∧Rv x b1 m1 k1 c1 n1 l1 s1∧s.data.toList=rtext x∧∀ w,EnvM w→Calls Tryz.prog 64 #[.string s] w (RetB w (.tuple #[.agg #[.bool b1,.string m1,.bool false,.string k1,.bool c1,.string n1,.bool false,.string l1,.bool s1],.int .i64 0]))) ∨
  ((¬∃ x:Sg.Rl,x.Ok∧s.data.toList=rtext x)∧∀ w,EnvM w→Calls Tryz.prog 64 #[.string s] w (RetB w (.tuple #[.agg #[.bool false,.string ⟨#[]⟩,.bool false,.string ⟨#[]⟩,.bool false,.string ⟨#[]⟩,.bool false,.string ⟨#[]⟩,.bool false],.int .i64 15]))):=by
 obtain ⟨x',y',o,hc⟩:∃ x y o,Lib.cut s.data.toList [115,113,114,116,40]=(x,y,o):=⟨_,_,_,rfl⟩
 have hl:=cut_len s.data.toList [115,113,114,116,40]
 rw [hc,size_list] at hl
 obtain ⟨p,r,b1,m1,k1,c1,n1,l1,s1,hp,hr,zp,zr,hv,hR⟩:=read_any s (by omega) hc (fun _=>by omega) (fun _=>⟨Nat.le_trans (suffix_len _ _) (Nat.le_trans (suffix_len _ _) (Nat.le_trans hl.1 (by omega))),Nat.le_trans (suffix_len _ _) (Nat.le_trans hl.2 (by omega))⟩)
 rcases chk_dec s1 hp hr zp zr with ⟨⟨x,ok,hx⟩,-,hC⟩ | ⟨hno,-,hC⟩
 · have e1:=hp.eq_of hx.p
   have e2:=hr.eq_of hx.r
   have z:Rz 60 x:=⟨by rw [←e1];exact zp,by rw [←e2];exact zr⟩
   by_cases ht:s.data.toList=rtext x
   · refine .inl ⟨x,b1,m1,k1,c1,n1,l1,s1,ok,hx,ht,fun w hE=>parse_ok3 w (fun V hb=>hR V (hE.next hb)) (fun V hb=>hC V (hE.next hb).env.env) (fun V hb=>?_)⟩
     have h:=pprint_f hx ok z V (hE.next hb)
     rwa [text_eq.1 ht] at h
   · refine .inr ⟨fun ⟨y,oky,hy⟩=>?_,fun w hE=>parse_no2 w (t:=⟨(rtext x).toArray⟩) (fun h=>ht (text_eq.2 h)) (fun V hb=>hR V (hE.next hb)) (fun V hb=>hC V (hE.next hb).env.env) (fun V hb=>pprint_f hx ok z V (hE.next hb))⟩
     obtain ⟨g1,g2,g3⟩:=hv y oky hy
     exact ht (hy.trans (rtext_same (g1.symm.trans e1) (g2.symm.trans e2) (g3.symm.trans hx.neg)))
 · refine .inr ⟨fun ⟨y,oky,hy⟩=>?_,fun w hE=>parse_no1 w (t:=⟨#[]⟩) (fun V hb=>hR V (hE.next hb)) (fun V hb=>hC V (hE.next hb).env.env)⟩
   obtain ⟨g1,g2,g3⟩:=hv y oky hy
   exact hno ⟨y,oky,by rw [←g1];exact hp,by rw [←g2];exact hr,g3⟩

theorem first_s (l:List UInt8):(∀ b∈l,b≠115)∨∃ A r,l=A++115 :: r∧∀ b∈A,b≠115:=by
 induction l with
 | nil=>exact .inl (fun b hb=>by cases hb)
 | cons b l ih =>
   by_cases h:b=115
   · exact .inr ⟨[],l,by rw [h];rfl,fun b hb=>by cases hb⟩
   · rcases ih with ih | ⟨A,r,rfl,h2⟩
     · refine .inl fun c hc=>?_
       rcases List.mem_cons.1 hc with rfl | hc
       · exact h
       · exact ih c hc
     · refine .inr ⟨b :: A,r,rfl,fun c hc=>?_⟩
       rcases List.mem_cons.1 hc with rfl | hc
       · exact h
       · exact h2 c hc
theorem s_once {A B r q:List UInt8} (h:A++115 :: r=B++115 :: q) (hA:∀ b∈A,b≠115) (hB:∀ b∈B,b≠115):A=B∧r=q:=by
 have h1:=cut_at (c:=115) (t:=[]) (r:=r) hA
 have h2:=cut_at (c:=115) (t:=[]) (r:=q) hB
 rw [show A++([115]++r)=B++([115]++q) from h,h2] at h1
 injection h1 with h1 h3
 injection h3 with h3 _
 exact ⟨h1.symm,h3.symm⟩
theorem text_s {x:Sg.Rl} {A r:List UInt8} (h:A++115 :: r=rtext x) (hA:∀ b∈A,b≠115):x.a≠0∧A=ftext x.p++[if x.s<0 then 45 else 43]∧r=[113,114,116,40]++(ftext x.a++[41]):=by
 by_cases h0:x.a=0
 · rw [rtext_rat h0] at h
   exact absurd rfl (no_s (q:=x.p) 115 (by rw [←h];simp))
 · rw [rtext_irr h0] at h
   obtain ⟨h1,h2⟩:=s_once (B:=ftext x.p++[if x.s<0 then 45 else 43]) (q:=[113,114,116,40]++(ftext x.a++[41])) h hA (fun b hb=>by
    rcases List.mem_append.1 hb with hb | hb
    · exact no_s b hb
    · rw [List.mem_singleton.1 hb]
      split<;>decide)
   exact ⟨h0,h1,h2⟩
theorem byte_at {s:ByteArray} {i:Nat} {b:UInt8} (h:s.data.toList[i]?=some b):∀ h',(s[i]'h').toNat=b.toNat:=fun h'=>by
 have h1:s.data.toList[i]?=some (s[i]'h'):=by
  rw [List.getElem?_eq_getElem (show i<s.data.toList.length by rw [size_list];exact h')]
  rfl
 rw [h] at h1
 injection h1 with h1
 rw [h1]
theorem ext_list (s:ByteArray) (a b:Nat):(s.extract a b).data.toList=(s.data.toList.drop a).take (b-a):=Lib.extract_data s a b

set_option maxHeartbeats 4000000 in
theorem fparse_any (s:ByteArray) (hs:s.size≤60) :
  (∀ (x:Sg.Rl) (b1:Bool) (m1 k1:ByteArray) (c1:Bool) (n1 l1:ByteArray) (s1:Bool),x.Ok→Rv x b1 m1 k1 c1 n1 l1 s1→s.data.toList=rtext x→∀ w,Calls Tryz.prog 66 #[.string s] w (RetB w (.tuple #[.agg #[.bool b1,.string m1,.bool false,.string k1,.bool c1,.string n1,.bool false,.string l1,.bool s1],.bool true]))) ∧
  ((¬∃ x:Sg.Rl,x.Ok∧s.data.toList=rtext x)→∃ (b1:Bool) (m1 k1:ByteArray) (c1:Bool) (n1 l1:ByteArray) (s1:Bool),∀ w,Calls Tryz.prog 66 #[.string s] w (RetB w (.tuple #[.agg #[.bool b1,.string m1,.bool false,.string k1,.bool c1,.string n1,.bool false,.string l1,.bool s1],.bool false]))):=by
 have look:∀ (A:List UInt8),(∀ b∈A,b≠115)→(∃ r,s.data.toList=A++r)→∀ k:Nat,k<A.length→∃ x:Nat,(∀ h,(s[k]'h).toNat=x)∧((x:Int)==115)=false∧¬(x:Int)=115∧(k:Int)<(s.size:Int)∧((k:Int)==(s.size:Int))=false:=by
  rintro A hA ⟨r,hr⟩ k hk
  have hsz:=congrArg List.length hr
  rw [size_list,List.length_append] at hsz
  have hb:s.data.toList[k]?=some A[k]:=by rw [hr,List.getElem?_append_left hk,List.getElem?_eq_getElem hk]
  have h1:A[k]≠115:=hA _ (List.getElem_mem hk)
  have h2:¬((A[k].toNat:Nat):Int)=115:=fun e=>h1 (UInt8.toNat_inj.1 (by show A[k].toNat=115;omega))
  have h3:¬(k:Int)=(s.size:Int):=by omega
  exact ⟨A[k].toNat,byte_at hb,by simpa using h2,h2,by omega,by simpa using h3⟩
 rcases first_s s.data.toList with hno | ⟨A,r,hl,hA⟩
 · -- no root
   have HB:=Lib.hid (look s.data.toList hno ⟨[],by simp⟩)
   have hK:s.data.toList.length=s.size:=size_list s
   have only:∀ x:Sg.Rl,s.data.toList=rtext x→x.a=0∧s.data.toList=ftext x.p:=fun x h=>by
    by_cases h0:x.a=0
    · exact ⟨h0,h.trans (rtext_rat h0)⟩
    · rw [rtext_irr h0] at h
      exact absurd rfl (hno 115 (by rw [h];simp))
   obtain ⟨q,b,m,k,e0,hq,hv,-,hP⟩:=parse_both s (by omega)
   have zq:Sz 60 q:=(hv.room (by rw [size_list];omega)).up (by omega)
   by_cases he:e0=0
   · subst he
     by_cases ht:s.data.toList=ftext q
     · have hQ:=fun V=>rprint_f hq zq V
       rw [text_eq.1 ht] at hQ
       refine ⟨fun x b1 m1 k1 c1 n1 l1 s1 ok hx h w=>?_,fun hn=>absurd ⟨⟨q,0,1⟩,⟨.inl rfl,.inl ⟨rfl,rfl⟩⟩,ht⟩ hn⟩
       obtain ⟨h0,h1⟩:=only x h
       have h2:=(hv.one (by rw [h1];exact pv_ftext x.p)).1
       subst h2
       obtain ⟨rfl,rfl,rfl⟩:=hq.inj hx.p
       have hr:=hx.r
       rw [h0] at hr
       obtain ⟨rfl,rfl,rfl⟩:=hr.nought.1 rfl
       obtain rfl:s1=false:=by rw [hx.neg];exact ok_sign ok h0
       exact fparse_a3 w HB hK (by omega) (fun V _=>hP V) (fun V _=>of_any _ _ _ V) (fun V _=>hQ V)
     · refine ⟨fun x b1 m1 k1 c1 n1 l1 s1 ok hx h w=>?_,fun hn=>⟨b,m,k,false,⟨#[]⟩,⟨#[]⟩,false,fun w=>fparse_a2 w (t:=⟨(ftext q).toArray⟩) (fun h=>ht (text_eq.2 h)) HB hK (by omega) (fun V _=>hP V) (fun V _=>of_any _ _ _ V) (fun V _=>rprint_f hq zq V)⟩⟩
       obtain ⟨h0,h1⟩:=only x h
       have h2:=(hv.one (by rw [h1];exact pv_ftext x.p)).1
       exact absurd (by rw [h2];exact h1) ht
   · refine ⟨fun x b1 m1 k1 c1 n1 l1 s1 ok hx h w=>?_,fun hn=>⟨b,m,k,false,⟨#[]⟩,⟨#[]⟩,false,fun w=>fparse_a1 w he HB hK (by omega) (fun V _=>hP V) (fun V _=>of_any _ _ _ V)⟩⟩
     obtain ⟨h0,h1⟩:=only x h
     exact absurd (hv.one (by rw [h1];exact pv_ftext x.p)).2 he
 · have HB:=Lib.hid (look A hA ⟨_,hl⟩)
   have hsz:A.length+(r.length+1)=s.size:=by rw [←size_list,hl];simp
   have hK1:(A.length:Int)<(s.size:Int):=by omega
   have HX:∀ h,(s[A.length]'h).toNat=115:=byte_at (b:=115) (by rw [hl];simp)
   have parts:∀ x:Sg.Rl,s.data.toList=rtext x→x.a≠0∧A=ftext x.p++[if x.s<0 then 45 else 43]∧r=[113,114,116,40]++(ftext x.a++[41]):=fun x h=>text_s (hl.symm.trans h) hA
   by_cases h1:(A.length:Int)<2
   · refine ⟨fun x _ _ _ _ _ _ _ _ _ e=>False.elim ?_,fun hn=>⟨_,_,_,_,_,_,_,fun w=>fparse_b1 w HB hK1 (by omega) HX h1⟩⟩
     obtain ⟨-,hA',-⟩:=parts x e
     have:=List.length_pos_iff.2 (ftext_ne x.p)
     rw [hA',List.length_append] at h1
     simp at h1
     omega
   by_cases h2:(s.size:Int)<(A.length:Int)+7
   · refine ⟨fun x _ _ _ _ _ _ _ _ _ e=>False.elim ?_,fun hn=>⟨_,_,_,_,_,_,_,fun w=>fparse_b2 w HB hK1 (by omega) HX h1 h2⟩⟩
     obtain ⟨-,-,hr⟩:=parts x e
     have:=List.length_pos_iff.2 (ftext_ne x.a)
     have h3:r.length=(ftext x.a).length+5:=by rw [hr];simp
     omega
   obtain ⟨S1,hS1⟩:∃ S1,S1+1=s.size:=⟨s.size-1,by omega⟩
   obtain ⟨K1,hK2⟩:∃ K1,K1+1=A.length:=⟨A.length-1,by omega⟩
   by_cases h3:s.extract A.length (A.length+5)=⟨#[115,113,114,116,40]⟩
   rotate_left
   · refine ⟨fun x _ _ _ _ _ _ _ _ _ e=>False.elim (h3 ?_),fun hn=>⟨_,_,_,_,_,_,_,fun w=>fparse_b3 w HB hK1 (by omega) HX h1 h2 hS1 rfl h3⟩⟩
     obtain ⟨-,-,hr⟩:=parts x e
     have h4:=ext_list s A.length (A.length+5)
     rw [hl,hr,List.drop_left,show A.length+5-A.length=5 by omega] at h4
     exact (text_eq.1 h4).symm
   obtain ⟨y,hy⟩:∃ y,s.data.toList[S1]?=some y:=⟨_,List.getElem?_eq_getElem (by rw [size_list];omega)⟩
   by_cases h4:(y.toNat:Int)=41
   rotate_left
   · refine ⟨fun x _ _ _ _ _ _ _ _ _ e=>False.elim (h4 ?_),fun hn=>⟨_,_,_,_,_,_,_,fun w=>fparse_b4 w HB hK1 (by omega) HX h1 h2 hS1 h3 (byte_at hy) h4⟩⟩
     obtain ⟨h0,-,-⟩:=parts x e
     rw [e,rtext_irr h0,←List.append_assoc,←List.append_assoc] at hy
     have h5:S1=(ftext x.p++[if x.s<0 then 45 else 43]++[115,113,114,116,40]++ftext x.a).length:=by
      have h6:=size_list s
      rw [e,rtext_irr h0,←List.append_assoc,←List.append_assoc,List.length_append,List.length_singleton] at h6
      omega
     rw [h5,List.getElem?_append_right (Nat.le_refl _)] at hy
     simp at hy
     rw [←hy]
     rfl
   have HY:∀ h,(s[S1]'h).toNat=41:=by
    have:=byte_at hy
    rwa [show y.toNat=41 by omega] at this
   obtain ⟨z,hz⟩:∃ z,s.data.toList[K1]?=some z:=⟨_,List.getElem?_eq_getElem (by rw [size_list];omega)⟩
   obtain ⟨u,hu⟩:∃ u,s.extract 0 K1=u:=⟨_,rfl⟩
   obtain ⟨v,hv⟩:∃ v,s.extract (A.length+5) S1=v:=⟨_,rfl⟩
   obtain ⟨n,hn⟩:∃ n,((z.toNat:Int)==45)=n:=⟨_,rfl⟩
   have lu:u.data.toList=s.data.toList.take K1:=by rw [←hu,ext_list,List.drop_zero,Nat.sub_zero]
   have lv:v.data.toList=(s.data.toList.drop (A.length+5)).take (S1-(A.length+5)):=by rw [←hv,ext_list]
   have su:u.size≤60:=by rw [←size_list,lu];exact Nat.le_trans (List.length_take_le _ _) (by omega)
   have sv:v.size≤60:=by rw [←size_list,lv];exact Nat.le_trans (List.length_take_le _ _) (by omega)
   have told:∀ x:Sg.Rl,s.data.toList=rtext x→u.data.toList=ftext x.p∧v.data.toList=ftext x.a∧n=decide (x.s<0):=fun x e=>by
    obtain ⟨h0,hA',hr⟩:=parts x e
    have h5:K1=(ftext x.p).length:=by rw [hA',List.length_append,List.length_singleton] at hK2;omega
    have h6:r.length=(ftext x.a).length+5:=by rw [hr];simp
    refine ⟨?_,?_,?_⟩
    · rw [lu,hl,hA',h5,List.append_assoc,List.take_left]
    · have h7:S1-(A.length+5)=(ftext x.a).length:=by omega
      rw [lv,h7,hl,←List.drop_drop,List.drop_left,hr]
      show ((ftext x.a++[41]).take _)=_
      rw [List.take_left]
    · rw [hl,hA',h5,List.append_assoc,List.getElem?_append_right (Nat.le_refl _)] at hz
      simp at hz
      rw [←hn,←hz]
      by_cases hs0:x.s<0
      · rw [if_pos hs0,decide_eq_true hs0];rfl
      · rw [if_neg hs0,decide_eq_false hs0];rfl
   obtain ⟨p,b1,m1,k1,e,hp,vp,-,hP⟩:=parse_both u (by omega)
   obtain ⟨q,c1,n1,l1,f,hq,vq,-,hQ⟩:=parse_both v (by omega)
   have zp:Sz 60 p:=(vp.room (by rw [size_list];omega)).up (by omega)
   have zq:Sz 60 q:=(vq.room (by rw [size_list];omega)).up (by omega)
   have same:∀ x:Sg.Rl,s.data.toList=rtext x→p=x.p∧e=0∧q=x.a∧f=0∧n=decide (x.s<0):=fun x h=>by
    obtain ⟨g1,g2,g3⟩:=told x h
    obtain ⟨i1,i2⟩:=vp.one (by rw [g1];exact pv_ftext x.p)
    obtain ⟨j1,j2⟩:=vq.one (by rw [g2];exact pv_ftext x.a)
    exact ⟨i1,i2,j1,j2,g3⟩
   by_cases he:e=0
   rotate_left
   · exact ⟨fun x _ _ _ _ _ _ _ _ _ h=>(he (same x h).2.1).elim,fun hn'=>⟨_,_,_,_,_,_,_,fun w=>fparse_c1 w he HB hK1 (by omega) HX h1 h2 hS1 h3 HY hK2 hu hv (byte_at hz) hn (fun V _=>hP V) (fun V _=>hQ V)⟩⟩
   subst he
   by_cases hf:f=0
   rotate_left
   · exact ⟨fun x _ _ _ _ _ _ _ _ _ h=>(hf (same x h).2.2.2.1).elim,fun hn'=>⟨_,_,_,_,_,_,_,fun w=>fparse_c2 (e:=0) w hf HB hK1 (by omega) HX h1 h2 hS1 h3 HY hK2 hu hv (byte_at hz) hn (fun V _=>hP V) (fun V _=>hQ V)⟩⟩
   subst hf
   rcases chk_dec n hp hq zp zq with ⟨⟨x,ok,hx⟩,hC,-⟩ | ⟨hno,hC,-⟩
   rotate_left
   · refine ⟨fun x b1 m1 k1 c1 n1 l1 s1 ok hx h w=>?_,fun hn'=>⟨_,_,_,_,_,_,_,fun w=>fparse_c3 (e:=0) (f:=0) w HB hK1 (by omega) HX h1 h2 hS1 h3 HY hK2 hu hv (byte_at hz) hn (fun V _=>hP V) (fun V _=>hQ V) (fun V _=>hC V)⟩⟩
     obtain ⟨g1,-,g2,-,g3⟩:=same x h
     exact absurd ⟨x,ok,by rw [←g1];exact hp,by rw [←g2];exact hq,g3⟩ hno
   have e1:=hp.eq_of hx.p
   have e2:=hq.eq_of hx.r
   have zx:Rz 60 x:=⟨by rw [←e1];exact zp,by rw [←e2];exact zq⟩
   have hPr:=fun V=>fprint_f hx ok zx V
   by_cases ht:s.data.toList=rtext x
   rotate_left
   · refine ⟨fun y b1 m1 k1 c1 n1 l1 s1 oky hy h w=>?_,fun hn'=>⟨_,_,_,_,_,_,_,fun w=>fparse_c4 (e:=0) (f:=0) w (t:=⟨(rtext x).toArray⟩) (fun h=>ht (text_eq.2 h)) HB hK1 (by omega) HX h1 h2 hS1 h3 HY hK2 hu hv (byte_at hz) hn (fun V _=>hP V) (fun V _=>hQ V) (fun V _=>hC V) (fun V _=>hPr V)⟩⟩
     obtain ⟨g1,-,g2,-,g3⟩:=same y h
     exact absurd (h.trans (rtext_same (g1.symm.trans e1) (g2.symm.trans e2) (g3.symm.trans hx.neg))) ht
   rw [text_eq.1 ht] at hPr
   refine ⟨fun y b1' m1' k1' c1' n1' l1' s1' oky hy h w=>?_,fun hn'=>absurd ⟨x,ok,ht⟩ hn'⟩
   obtain ⟨g1,-,g2,-,g3⟩:=same y h
   rw [g1] at hp
   rw [g2] at hq
   obtain ⟨rfl,rfl,rfl⟩:=hp.inj hy.p
   obtain ⟨rfl,rfl,rfl⟩:=hq.inj hy.r
   obtain rfl:n=s1':=g3.trans hy.neg.symm
   exact fparse_c5 (e:=0) (f:=0) w HB hK1 (by omega) HX h1 h2 hS1 h3 HY hK2 hu hv (byte_at hz) hn (fun V _=>hP V) (fun V _=>hQ V) (fun V _=>hC V) (fun V _=>hPr V)

theorem parses_all (s:ByteArray) (w:World) (hE:EnvM w):Calls Tryz.prog 14 #[.string s] w (RetB w (.bool true)):=by
 have HK:=fun V (hb:Below w.heap.size w V)=>rknown3 V (hE.next hb).env.env
 by_cases hl:(s.size:Int)≤60
 · obtain ⟨f1,f2⟩:=fparse_any s (by omega)
   rcases pparse_any s (by omega) with ⟨x,b1,m1,k1,c1,n1,l1,s1,ok,hx,ht,hP⟩ | ⟨hn,hP⟩
   · exact parses_yes w hl HK (fun V hb=>hP V (hE.next hb)) (fun V _=>f1 x b1 m1 k1 c1 n1 l1 s1 ok hx ht V)
   · obtain ⟨b1,m1,k1,c1,n1,l1,s1,hF⟩:=f2 hn
     exact parses_no w hl HK (fun V hb=>hP V (hE.next hb)) (fun V _=>hF V)
 · exact parses_long w hl HK
end Go.Proofs.YtpnokfgplnmjpaaGreatDoor
