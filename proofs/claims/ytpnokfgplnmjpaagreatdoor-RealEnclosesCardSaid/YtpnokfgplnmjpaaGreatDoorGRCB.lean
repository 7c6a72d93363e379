import Derived.Test.YtpnokfgplnmjpaaGreatDoorGRCA
set_option linter.unusedSimpArgs false
set_option linter.unusedVariables false

namespace Go.Proofs.YtpnokfgplnmjpaaGreatDoor
open Go.RowKit
attribute [local go_sem ↓] Go.wp_at_zero Go.wp_at_succ
attribute [local go_sem] undef yielded

set_option maxHeartbeats 16000000 in
set_option maxRecDepth 100000 in
theorem rCheck_no (b:Bool) (m:ByteArray) (c:Bool) (k:ByteArray) (s1:m.size≤100000) (s2:k.size≤100000) (hno:¬(c=false∧∃ q,Rq q b m k)) (w:World) :
  Calls Tryz.prog 57 #[.agg #[.bool b,.string m,.bool c,.string k]] w (RetB w (.bool false)):=by
 have HC1:=Lib.hid (fun V=>isInt_any b m V)
 have HC2:=Lib.hid (fun V=>isInt_any c k V)
 rcases rq_cases b m c k with h | h | ⟨h1,h2⟩ | ⟨h1,h2,h3⟩ | ⟨h1,h2,h3,h4⟩ | ⟨x,d,hx,h3,h4,h5,h6⟩
 · exact absurd h hno
 · rw [h] at HC1
   clear h hno
   have X:=Lib.hid ((Sb.start w).new #[.bool b,.string m,.bool c,.string k] 25)
   have X:=Lib.hid (X.out.pick [0] [(w.heap.size,#[.bool b,.string m,.bool c,.string k],25)] [] (by simp) (by decide) (by simp))
   obtain ⟨a0,a1,a2,a3⟩:=X.out.c4 (i:=0) rfl
   go_enter Tryz.func57,Tryz.ntmps57
   go_wp2_with fail
   refine (HC1.out _).mono ?_
   rintro e w1 ⟨rfl,hb9⟩
   have X:=Lib.hid (X.out.next hb9)
   clear hb9
   clear a0 a1 a2 a3
   go_wp2
   go_ret
   exact ⟨rfl,X.out.bel⟩
 · rw [h1] at HC1
   rw [h2] at HC2
   clear h1 h2 hno
   have X:=Lib.hid ((Sb.start w).new #[.bool b,.string m,.bool c,.string k] 25)
   have X:=Lib.hid (X.out.pick [0] [(w.heap.size,#[.bool b,.string m,.bool c,.string k],25)] [] (by simp) (by decide) (by simp))
   obtain ⟨a0,a1,a2,a3⟩:=X.out.c4 (i:=0) rfl
   go_enter Tryz.func57,Tryz.ntmps57
   go_wp2_with fail
   refine (HC1.out _).mono ?_
   rintro e w1 ⟨rfl,hb9⟩
   have X:=Lib.hid (X.out.next hb9)
   clear hb9
   clear a0 a1 a2 a3
   obtain ⟨a0,a1,a2,a3⟩:=X.out.c4 (i:=0) rfl
   go_wp2_with fail
   refine (HC2.out _).mono ?_
   rintro e w2 ⟨rfl,hb9⟩
   have X:=Lib.hid (X.out.next hb9)
   clear hb9
   clear a0 a1 a2 a3
   obtain ⟨a0,a1,a2,a3⟩:=X.out.c4 (i:=0) rfl
   go_wp2
   go_ret
   exact ⟨rfl,X.out.bel⟩
 · rw [h1] at HC1
   rw [h2] at HC2
   clear h1 h2 hno
   subst h3
   have X:=Lib.hid ((Sb.start w).new #[.bool b,.string m,.bool true,.string k] 25)
   have X:=Lib.hid (X.out.pick [0] [(w.heap.size,#[.bool b,.string m,.bool true,.string k],25)] [] (by simp) (by decide) (by simp))
   obtain ⟨a0,a1,a2,a3⟩:=X.out.c4 (i:=0) rfl
   go_enter Tryz.func57,Tryz.ntmps57
   go_wp2_with fail
   refine (HC1.out _).mono ?_
   rintro e w1 ⟨rfl,hb9⟩
   have X:=Lib.hid (X.out.next hb9)
   clear hb9
   clear a0 a1 a2 a3
   obtain ⟨a0,a1,a2,a3⟩:=X.out.c4 (i:=0) rfl
   go_wp2_with fail
   refine (HC2.out _).mono ?_
   rintro e w2 ⟨rfl,hb9⟩
   have X:=Lib.hid (X.out.next hb9)
   clear hb9
   clear a0 a1 a2 a3
   obtain ⟨a0,a1,a2,a3⟩:=X.out.c4 (i:=0) rfl
   go_wp2
   go_ret
   exact ⟨rfl,X.out.bel⟩
 · rw [h1] at HC1
   rw [h2] at HC2
   subst h3
   have hl1:k.toList=[1]:=by rw [h4,ByteArray.toList_eq]
   have hk0:k.toList.isEmpty=false:=by rw [hl1];rfl
   have HD1:=Lib.hid (fun V=>rdigits b m V (by omega))
   have HD2:=Lib.hid (fun V=>rdigits false k V (by omega))
   have HN0:=Lib.hid (show nd (bval m)≤100000 from Nat.le_trans (nd_le (bval_lt m)) s1)
   have HN1:=Lib.hid (show nd (bval k)≤100000 from Nat.le_trans (nd_le (bval_lt k)) s2)
   clear h1 h2 hno h4
   have X:=Lib.hid ((Sb.start w).new #[.bool b,.string m,.bool false,.string k] 25)
   have X:=Lib.hid (X.out.pick [0] [(w.heap.size,#[.bool b,.string m,.bool false,.string k],25)] [] (by simp) (by decide) (by simp))
   obtain ⟨a0,a1,a2,a3⟩:=X.out.c4 (i:=0) rfl
   go_enter Tryz.func57,Tryz.ntmps57
   go_wp2_with fail
   refine (HC1.out _).mono ?_
   rintro e w1 ⟨rfl,hb9⟩
   have X:=Lib.hid (X.out.next hb9)
   clear hb9
   clear a0 a1 a2 a3
   obtain ⟨a0,a1,a2,a3⟩:=X.out.c4 (i:=0) rfl
   go_wp2_with fail
   refine (HC2.out _).mono ?_
   rintro e w2 ⟨rfl,hb9⟩
   have X:=Lib.hid (X.out.next hb9)
   clear hb9
   clear a0 a1 a2 a3
   obtain ⟨a0,a1,a2,a3⟩:=X.out.c4 (i:=0) rfl
   go_upto_region 5 with fail
   clear a0 a1 a2 a3
   refine wp_region_late (S:=fun w'=>(w'.cell? ⟨w.heap.size,0,none⟩=some (.bool b)∧w'.cell? ⟨w.heap.size,1,none⟩=some (.string m)∧w'.cell? ⟨w.heap.size,2,none⟩=some (.bool false)∧w'.cell? ⟨w.heap.size,3,none⟩=some (.string k))) (L:=[]) (by kernel_rfl) ?_
   have X:=Lib.hid X.out.drew
   obtain ⟨V0,hV⟩:=wexi X.out
   rw [←hV] at X ⊢
   clear hV
   refine tk (i:=0) (oi:=⟨some 23,_,_,_,_,_⟩) (v:=_) rfl (by kernel_rfl) (fun _ _ _ h=>h) (X.out.c4 (i:=0) rfl) (Or.inl ⟨by rfl,by intro w hSw;(try dsimp only at hSw);(first | (go_simp;done) | (go_simp;with_reducible rfl))⟩) ?_
   try simp only [Act.put,seti,set0,setS]
   refine tk (i:=1) (oi:=⟨some 24,_,_,_,_,_⟩) (v:=_) rfl (by kernel_rfl) (fun _ _ _ h=>h) (X.out.c4 (i:=0) rfl) (Or.inl ⟨by rfl,by intro w hSw;(try dsimp only at hSw);(first | (go_simp;done) | (go_simp;with_reducible rfl))⟩) ?_
   try simp only [Act.put,seti,set0,setS]
   refine tk (i:=3) (oi:=⟨some 26,_,_,_,_,_⟩) (v:=_) rfl (by kernel_rfl) (fun _ _ _ h=>h) (X.out.c4 (i:=0) rfl) (Or.inl ⟨by rfl,by intro w hSw;(try dsimp only at hSw);(first | (go_simp;done) | (go_simp;with_reducible rfl))⟩) ?_
   try simp only [Act.put,seti,set0,setS]
   refine tk (i:=4) (oi:=⟨some 27,_,_,_,_,_⟩) (v:=_) rfl (by kernel_rfl) (fun _ _ _ h=>h) (X.out.c4 (i:=0) rfl) (Or.inl ⟨by rfl,by intro w hSw;(try dsimp only at hSw);(first | (go_simp;done) | (go_simp;with_reducible rfl))⟩) ?_
   try simp only [Act.put,seti,set0,setS]
   refine wpLate_one (i:=2) (o:=⟨some 25,_,_,_,_,_⟩) (by kernel_rfl) rfl (fun K hK=>?_)
   go_simp
   (go_at_call 112;refine (HD1.out _).mono ?_;rintro e u1 ⟨A1,n1,c1,rfl,ht9,hb9,hf9⟩;have X:=Lib.hid (X.out.row hb9 ht9 hf9);clear hb9 ht9 hf9)
   try go_wp2_with fail
   refine hK.out _ _ (Or.inr (fun _=>X.out.c4 (i:=0) rfl)) ?_
   clear hK K
   try simp only [Act.put,seti,set0,setS]
   refine wpLate_one (i:=5) (o:=⟨some 28,_,_,_,_,_⟩) (by kernel_rfl) rfl (fun K hK=>?_)
   go_simp
   (go_at_call 112;refine (HD2.out _).mono ?_;rintro e u2 ⟨A2,n2,c2,rfl,ht9,hb9,hf9⟩;have X:=Lib.hid (X.out.row hb9 ht9 hf9);clear hb9 ht9 hf9)
   try go_wp2_with fail
   refine hK.out _ _ (Or.inr (fun _=>X.out.c4 (i:=0) rfl)) ?_
   clear hK K
   try simp only [Act.put,seti,set0,setS]
   refine wpLate_one (i:=6) (o:=⟨some 29,_,_,_,_,_⟩) (by kernel_rfl) rfl (fun K hK=>?_)
   go_simp
   (go_at_call 111;refine (rcommon _ _ _ _ _ _ _ _ _ (by have h:=(X.out.rw (i:=0) rfl).ln;have h2:=HN0.out;omega) (by have h:=(X.out.rw (i:=1) rfl).ln;have h2:=HN1.out;omega) (X.out.rw (i:=0) rfl) (X.out.rw (i:=1) rfl)).mono ?_;rintro e u3 ⟨A3,n3,c3,rfl,ht9,hb9⟩;have TG:=Lib.hid ht9;have X:=Lib.hid (X.out.next hb9);clear hb9 ht9)
   try go_wp2_with fail
   refine hK.out _ _ (Or.inr (fun _=>X.out.c4 (i:=0) rfl)) ?_
   clear hK K
   try simp only [Act.put,seti,set0,setS]
   refine tk (i:=7) (oi:=⟨some 3,_,_,_,_,_⟩) (v:=_) rfl (by kernel_rfl) (fun _ _ _ h=>h) (X.out.c4 (i:=0) rfl) (Or.inl ⟨by rfl,by intro w hSw;(try dsimp only at hSw);(first | (go_simp;done) | (go_simp;with_reducible rfl))⟩) ?_
   try simp only [Act.put,seti,set0,setS]
   refine wpLate_done (by kernel_rfl) ?_ _
   obtain ⟨AG,hAG⟩:∃ A,A=A3:=⟨_,rfl⟩
   obtain ⟨nG,hnG⟩:∃ A,A=n3:=⟨_,rfl⟩
   rw [←hAG,←hnG] at TG ⊢
   clear hAG hnG
   obtain ⟨a0,a1,a2,a3⟩:=X.out.c4 (i:=0) rfl
   clear hk0
   go_wp2
   go_ret
   exact ⟨rfl,X.out.bel⟩
 · rw [canon_yes hx] at HC1
   subst h3
   have hyd:enc ((d:Nat):Int)=.agg #[.bool false,.string k]:=by rw [h4];exact enc_mag d
   rw [canon_yes hyd] at HC2
   have hkn:=toList_ne (l:=[1]) (show k≠⟨#[1]⟩ from by rw [h4];exact mag_no_one (by omega))
   have hkn2:¬[1]=k.toList:=fun e=>hkn e.symm
   have hk0:k.toList.isEmpty=false:=by
    rw [List.isEmpty_eq_false_iff]
    exact toList_ne (l:=[]) (by rw [h4];exact mag_no_nil (by omega))
   have hg6:Nat.gcd (bval m) (bval k)≠1:=by rw [(enc_parts hx).2,h4,bval_mag,bval_mag];exact h6
   have hg0:0<Nat.gcd (bval m) (bval k):=by rw [h4,bval_mag];exact Nat.gcd_pos_of_pos_right _ (by omega)
   have HD1:=Lib.hid (fun V=>rdigits b m V (by omega))
   have HD2:=Lib.hid (fun V=>rdigits false k V (by omega))
   have HN0:=Lib.hid (show nd (bval m)≤100000 from Nat.le_trans (nd_le (bval_lt m)) s1)
   have HN1:=Lib.hid (show nd (bval k)≤100000 from Nat.le_trans (nd_le (bval_lt k)) s2)
   have HG6:=Lib.hid (And.intro hg6 hg0)
   clear hno h4 h5 h6 hx hyd hg6 hg0
   have X:=Lib.hid ((Sb.start w).new #[.bool b,.string m,.bool false,.string k] 25)
   have X:=Lib.hid (X.out.pick [0] [(w.heap.size,#[.bool b,.string m,.bool false,.string k],25)] [] (by simp) (by decide) (by simp))
   obtain ⟨a0,a1,a2,a3⟩:=X.out.c4 (i:=0) rfl
   go_enter Tryz.func57,Tryz.ntmps57
   go_wp2_with fail
   refine (HC1.out _).mono ?_
   rintro e w1 ⟨rfl,hb9⟩
   have X:=Lib.hid (X.out.next hb9)
   clear hb9
   clear a0 a1 a2 a3
   obtain ⟨a0,a1,a2,a3⟩:=X.out.c4 (i:=0) rfl
   go_wp2_with fail
   refine (HC2.out _).mono ?_
   rintro e w2 ⟨rfl,hb9⟩
   have X:=Lib.hid (X.out.next hb9)
   clear hb9
   clear a0 a1 a2 a3
   obtain ⟨a0,a1,a2,a3⟩:=X.out.c4 (i:=0) rfl
   go_upto_region 5 with fail
   clear a0 a1 a2 a3
   refine wp_region_late (S:=fun w'=>(w'.cell? ⟨w.heap.size,0,none⟩=some (.bool b)∧w'.cell? ⟨w.heap.size,1,none⟩=some (.string m)∧w'.cell? ⟨w.heap.size,2,none⟩=some (.bool false)∧w'.cell? ⟨w.heap.size,3,none⟩=some (.string k))) (L:=[]) (by kernel_rfl) ?_
   have X:=Lib.hid X.out.drew
   obtain ⟨V0,hV⟩:=wexi X.out
   rw [←hV] at X ⊢
   clear hV
   refine tk (i:=0) (oi:=⟨some 23,_,_,_,_,_⟩) (v:=_) rfl (by kernel_rfl) (fun _ _ _ h=>h) (X.out.c4 (i:=0) rfl) (Or.inl ⟨by rfl,by intro w hSw;(try dsimp only at hSw);(first | (go_simp;done) | (go_simp;with_reducible rfl))⟩) ?_
   try simp only [Act.put,seti,set0,setS]
   refine tk (i:=1) (oi:=⟨some 24,_,_,_,_,_⟩) (v:=_) rfl (by kernel_rfl) (fun _ _ _ h=>h) (X.out.c4 (i:=0) rfl) (Or.inl ⟨by rfl,by intro w hSw;(try dsimp only at hSw);(first | (go_simp;done) | (go_simp;with_reducible rfl))⟩) ?_
   try simp only [Act.put,seti,set0,setS]
   refine tk (i:=3) (oi:=⟨some 26,_,_,_,_,_⟩) (v:=_) rfl (by kernel_rfl) (fun _ _ _ h=>h) (X.out.c4 (i:=0) rfl) (Or.inl ⟨by rfl,by intro w hSw;(try dsimp only at hSw);(first | (go_simp;done) | (go_simp;with_reducible rfl))⟩) ?_
   try simp only [Act.put,seti,set0,setS]
   refine tk (i:=4) (oi:=⟨some 27,_,_,_,_,_⟩) (v:=_) rfl (by kernel_rfl) (fun _ _ _ h=>h) (X.out.c4 (i:=0) rfl) (Or.inl ⟨by rfl,by intro w hSw;(try dsimp only at hSw);(first | (go_simp;done) | (go_simp;with_reducible rfl))⟩) ?_
   try simp only [Act.put,seti,set0,setS]
   refine wpLate_one (i:=2) (o:=⟨some 25,_,_,_,_,_⟩) (by kernel_rfl) rfl (fun K hK=>?_)
   go_simp
   (go_at_call 112;refine (HD1.out _).mono ?_;rintro e u1 ⟨A1,n1,c1,rfl,ht9,hb9,hf9⟩;have X:=Lib.hid (X.out.row hb9 ht9 hf9);clear hb9 ht9 hf9)
   try go_wp2_with fail
   refine hK.out _ _ (Or.inr (fun _=>X.out.c4 (i:=0) rfl)) ?_
   clear hK K
   try simp only [Act.put,seti,set0,setS]
   refine wpLate_one (i:=5) (o:=⟨some 28,_,_,_,_,_⟩) (by kernel_rfl) rfl (fun K hK=>?_)
   go_simp
   (go_at_call 112;refine (HD2.out _).mono ?_;rintro e u2 ⟨A2,n2,c2,rfl,ht9,hb9,hf9⟩;have X:=Lib.hid (X.out.row hb9 ht9 hf9);clear hb9 ht9 hf9)
   try go_wp2_with fail
   refine hK.out _ _ (Or.inr (fun _=>X.out.c4 (i:=0) rfl)) ?_
   clear hK K
   try simp only [Act.put,seti,set0,setS]
   refine wpLate_one (i:=6) (o:=⟨some 29,_,_,_,_,_⟩) (by kernel_rfl) rfl (fun K hK=>?_)
   go_simp
   (go_at_call 111;refine (rcommon _ _ _ _ _ _ _ _ _ (by have h:=(X.out.rw (i:=0) rfl).ln;have h2:=HN0.out;omega) (by have h:=(X.out.rw (i:=1) rfl).ln;have h2:=HN1.out;omega) (X.out.rw (i:=0) rfl) (X.out.rw (i:=1) rfl)).mono ?_;rintro e u3 ⟨A3,n3,c3,rfl,ht9,hb9⟩;have TG:=Lib.hid ht9;have X:=Lib.hid (X.out.next hb9);clear hb9 ht9)
   try go_wp2_with fail
   refine hK.out _ _ (Or.inr (fun _=>X.out.c4 (i:=0) rfl)) ?_
   clear hK K
   try simp only [Act.put,seti,set0,setS]
   refine tk (i:=7) (oi:=⟨some 3,_,_,_,_,_⟩) (v:=_) rfl (by kernel_rfl) (fun _ _ _ h=>h) (X.out.c4 (i:=0) rfl) (Or.inl ⟨by rfl,by intro w hSw;(try dsimp only at hSw);(first | (go_simp;done) | (go_simp;with_reducible rfl))⟩) ?_
   try simp only [Act.put,seti,set0,setS]
   refine wpLate_done (by kernel_rfl) ?_ _
   obtain ⟨AG,hAG⟩:∃ A,A=A3:=⟨_,rfl⟩
   obtain ⟨nG,hnG⟩:∃ A,A=n3:=⟨_,rfl⟩
   rw [←hAG,←hnG] at TG ⊢
   clear hAG hnG
   obtain ⟨a0,a1,a2,a3⟩:=X.out.c4 (i:=0) rfl
   have hn0:0<nG:=by rw [TG.out.ln];exact nd_pos HG6.out.2
   obtain ⟨gb,go,rfl,_,hcl⟩:=TG.out.dg.rd hn0
   have hc0:=hcl 0 hn0
   rw [Nat.add_zero] at hc0
   by_cases hn1:nG=1
   · have hne : ((D 256 (Nat.gcd (bval m) (bval k)) 0 : Int) == 1) = false := by
      have h1:=TG.out.ln
      have h2:=nd_lt (Nat.gcd (bval m) (bval k))
      rw [←h1,hn1] at h2
      have h3:D 256 (Nat.gcd (bval m) (bval k)) 0=Nat.gcd (bval m) (bval k):=by unfold D;rw [Nat.pow_zero,Nat.div_one];exact Nat.mod_eq_of_lt (by omega)
      rw [h3]
      have h4:=HG6.out.1
      simp
      omega
     have hlen:((nG:Int)==1)=true:=by rw [hn1];rfl
     generalize D 256 (Nat.gcd (bval m) (bval k)) 0=dg at *
     clear HG6 hcl
     go_wp2
     go_ret
     exact ⟨rfl,X.out.bel⟩
   · have hlen:((nG:Int)==1)=false:=by simp;omega
     clear HG6 hcl
     go_wp2
     go_ret
     exact ⟨rfl,X.out.bel⟩

set_option maxHeartbeats 16000000 in
set_option maxRecDepth 100000 in
theorem rCheck_yes {q:Rat} {b:Bool} {m k:ByteArray} (hq:Rq q b m k) (s1:m.size≤100000) (s2:k.size≤100000) (w:World) :
  Calls Tryz.prog 57 #[.agg #[.bool b,.string m,.bool false,.string k]] w (RetB w (.bool true)):=by
 have HC1:=Lib.hid (fun V=>isInt_any b m V)
 have HC2:=Lib.hid (fun V=>isInt_any false k V)
 rw [canon_yes hq.num] at HC1
 by_cases hd:q.den=1
 · obtain rfl:=hq.den1 hd
   rw [canon_yes (enc_nought)] at HC2
   clear hd hq
   have X:=Lib.hid ((Sb.start w).new #[.bool b,.string m,.bool false,.string ⟨#[]⟩] 25)
   have X:=Lib.hid (X.out.pick [0] [(w.heap.size,#[.bool b,.string m,.bool false,.string ⟨#[]⟩],25)] [] (by simp) (by decide) (by simp))
   obtain ⟨a0,a1,a2,a3⟩:=X.out.c4 (i:=0) rfl
   go_enter Tryz.func57,Tryz.ntmps57
   go_wp2_with fail
   refine (HC1.out _).mono ?_
   rintro e w1 ⟨rfl,hb9⟩
   have X:=Lib.hid (X.out.next hb9)
   clear hb9
   clear a0 a1 a2 a3
   obtain ⟨a0,a1,a2,a3⟩:=X.out.c4 (i:=0) rfl
   go_wp2_with fail
   refine (HC2.out _).mono ?_
   rintro e w2 ⟨rfl,hb9⟩
   have X:=Lib.hid (X.out.next hb9)
   clear hb9
   clear a0 a1 a2 a3
   obtain ⟨a0,a1,a2,a3⟩:=X.out.c4 (i:=0) rfl
   go_wp2
   go_ret
   exact ⟨rfl,X.out.bel⟩
 · have hk:=hq.den2 hd
   have hyd:enc ((q.den:Nat):Int)=.agg #[.bool false,.string k]:=by rw [hk];exact enc_mag q.den
   rw [canon_yes hyd] at HC2
   have hkn:=toList_ne (l:=[1]) (show k≠⟨#[1]⟩ from by rw [hk];exact mag_no_one hd)
   have hkn2:¬[1]=k.toList:=fun e=>hkn e.symm
   have hk0:k.toList.isEmpty=false:=by
    rw [List.isEmpty_eq_false_iff]
    exact toList_ne (l:=[]) (by rw [hk];exact mag_no_nil q.den_nz)
   have hg6:Nat.gcd (bval m) (bval k)=1:=by rw [hq.bval,hk,bval_mag];exact q.reduced
   have HD1:=Lib.hid (fun V=>rdigits b m V (by omega))
   have HD2:=Lib.hid (fun V=>rdigits false k V (by omega))
   have HN0:=Lib.hid (show nd (bval m)≤100000 from Nat.le_trans (nd_le (bval_lt m)) s1)
   have HN1:=Lib.hid (show nd (bval k)≤100000 from Nat.le_trans (nd_le (bval_lt k)) s2)
   have HG6:=Lib.hid hg6
   clear hd hk hyd hq hg6
   have X:=Lib.hid ((Sb.start w).new #[.bool b,.string m,.bool false,.string k] 25)
   have X:=Lib.hid (X.out.pick [0] [(w.heap.size,#[.bool b,.string m,.bool false,.string k],25)] [] (by simp) (by decide) (by simp))
   obtain ⟨a0,a1,a2,a3⟩:=X.out.c4 (i:=0) rfl
   go_enter Tryz.func57,Tryz.ntmps57
   go_wp2_with fail
   refine (HC1.out _).mono ?_
   rintro e w1 ⟨rfl,hb9⟩
   have X:=Lib.hid (X.out.next hb9)
   clear hb9
   clear a0 a1 a2 a3
   obtain ⟨a0,a1,a2,a3⟩:=X.out.c4 (i:=0) rfl
   go_wp2_with fail
   refine (HC2.out _).mono ?_
   rintro e w2 ⟨rfl,hb9⟩
   have X:=Lib.hid (X.out.next hb9)
   clear hb9
   clear a0 a1 a2 a3
   obtain ⟨a0,a1,a2,a3⟩:=X.out.c4 (i:=0) rfl
   go_upto_region 5 with fail
   clear a0 a1 a2 a3
   refine wp_region_late (S:=fun w'=>(w'.cell? ⟨w.heap.size,0,none⟩=some (.bool b)∧w'.cell? ⟨w.heap.size,1,none⟩=some (.string m)∧w'.cell? ⟨w.heap.size,2,none⟩=some (.bool false)∧w'.cell? ⟨w.heap.size,3,none⟩=some (.string k))) (L:=[]) (by kernel_rfl) ?_
   have X:=Lib.hid X.out.drew
   obtain ⟨V0,hV⟩:=wexi X.out
   rw [←hV] at X ⊢
   clear hV
   refine tk (i:=0) (oi:=⟨some 23,_,_,_,_,_⟩) (v:=_) rfl (by kernel_rfl) (fun _ _ _ h=>h) (X.out.c4 (i:=0) rfl) (Or.inl ⟨by rfl,by intro w hSw;(try dsimp only at hSw);(first | (go_simp;done) | (go_simp;with_reducible rfl))⟩) ?_
   try simp only [Act.put,seti,set0,setS]
   refine tk (i:=1) (oi:=⟨some 24,_,_,_,_,_⟩) (v:=_) rfl (by kernel_rfl) (fun _ _ _ h=>h) (X.out.c4 (i:=0) rfl) (Or.inl ⟨by rfl,by intro w hSw;(try dsimp only at hSw);(first | (go_simp;done) | (go_simp;with_reducible rfl))⟩) ?_
   try simp only [Act.put,seti,set0,setS]
   refine tk (i:=3) (oi:=⟨some 26,_,_,_,_,_⟩) (v:=_) rfl (by kernel_rfl) (fun _ _ _ h=>h) (X.out.c4 (i:=0) rfl) (Or.inl ⟨by rfl,by intro w hSw;(try dsimp only at hSw);(first | (go_simp;done) | (go_simp;with_reducible rfl))⟩) ?_
   try simp only [Act.put,seti,set0,setS]
   refine tk (i:=4) (oi:=⟨some 27,_,_,_,_,_⟩) (v:=_) rfl (by kernel_rfl) (fun _ _ _ h=>h) (X.out.c4 (i:=0) rfl) (Or.inl ⟨by rfl,by intro w hSw;(try dsimp only at hSw);(first | (go_simp;done) | (go_simp;with_reducible rfl))⟩) ?_
   try simp only [Act.put,seti,set0,setS]
   refine wpLate_one (i:=2) (o:=⟨some 25,_,_,_,_,_⟩) (by kernel_rfl) rfl (fun K hK=>?_)
   go_simp
   (go_at_call 112;refine (HD1.out _).mono ?_;rintro e u1 ⟨A1,n1,c1,rfl,ht9,hb9,hf9⟩;have X:=Lib.hid (X.out.row hb9 ht9 hf9);clear hb9 ht9 hf9)
   try go_wp2_with fail
   refine hK.out _ _ (Or.inr (fun _=>X.out.c4 (i:=0) rfl)) ?_
   clear hK K
   try simp only [Act.put,seti,set0,setS]
   refine wpLate_one (i:=5) (o:=⟨some 28,_,_,_,_,_⟩) (by kernel_rfl) rfl (fun K hK=>?_)
   go_simp
   (go_at_call 112;refine (HD2.out _).mono ?_;rintro e u2 ⟨A2,n2,c2,rfl,ht9,hb9,hf9⟩;have X:=Lib.hid (X.out.row hb9 ht9 hf9);clear hb9 ht9 hf9)
   try go_wp2_with fail
   refine hK.out _ _ (Or.inr (fun _=>X.out.c4 (i:=0) rfl)) ?_
   clear hK K
   try simp only [Act.put,seti,set0,setS]
   refine wpLate_one (i:=6) (o:=⟨some 29,_,_,_,_,_⟩) (by kernel_rfl) rfl (fun K hK=>?_)
   go_simp
   (go_at_call 111;refine (rcommon _ _ _ _ _ _ _ _ _ (by have h:=(X.out.rw (i:=0) rfl).ln;have h2:=HN0.out;omega) (by have h:=(X.out.rw (i:=1) rfl).ln;have h2:=HN1.out;omega) (X.out.rw (i:=0) rfl) (X.out.rw (i:=1) rfl)).mono ?_;rintro e u3 ⟨A3,n3,c3,rfl,ht9,hb9⟩;have TG:=Lib.hid ht9;have X:=Lib.hid (X.out.next hb9);clear hb9 ht9)
   try go_wp2_with fail
   refine hK.out _ _ (Or.inr (fun _=>X.out.c4 (i:=0) rfl)) ?_
   clear hK K
   try simp only [Act.put,seti,set0,setS]
   refine tk (i:=7) (oi:=⟨some 3,_,_,_,_,_⟩) (v:=_) rfl (by kernel_rfl) (fun _ _ _ h=>h) (X.out.c4 (i:=0) rfl) (Or.inl ⟨by rfl,by intro w hSw;(try dsimp only at hSw);(first | (go_simp;done) | (go_simp;with_reducible rfl))⟩) ?_
   try simp only [Act.put,seti,set0,setS]
   refine wpLate_done (by kernel_rfl) ?_ _
   obtain ⟨AG,hAG⟩:∃ A,A=A3:=⟨_,rfl⟩
   obtain ⟨nG,hnG⟩:∃ A,A=n3:=⟨_,rfl⟩
   rw [←hAG,←hnG] at TG ⊢
   clear hAG hnG
   obtain ⟨a0,a1,a2,a3⟩:=X.out.c4 (i:=0) rfl
   have TG:=TG
   rw [HG6.out] at TG
   have hn1:nG=1:=by rw [TG.out.ln];exact nd_one
   have hn0:0<nG:=by omega
   obtain ⟨gb,go,rfl,_,hcl⟩:=TG.out.dg.rd hn0
   have hc0:=hcl 0 hn0
   rw [Nat.add_zero] at hc0
   have hd1:(D 256 1 0:Nat)=1:=by decide
   rw [hd1] at hc0
   have hlen:((nG:Int)==1)=true:=by rw [hn1];rfl
   clear hcl
   go_wp2
   go_ret
   have hkb:(k.toList==[1])=false:=by simpa using hkn
   exact ⟨by show Ending.returned (.bool (!(k.toList==[1])))=_;rw [hkb];rfl,X.out.bel⟩
end Go.Proofs.YtpnokfgplnmjpaaGreatDoor
