import Derived.Test.YtdbhahiieokplaaGreatDoorGENE
import Derived.Test.YtdbhahiieokplaaGreatDoorGRLF
import Derived.Test.YtdbhahiieokplaaGreatDoorGKtD
import Derived.Test.YtdbhahiieokplaaGreatDoorGRGC
import Derived.Test.YtdbhahiieokplaaGreatDoorGQW
set_option linter.unusedSimpArgs false
set_option linter.unusedVariables false

namespace Go.Proofs.YtdbhahiieokplaaGreatDoor
open Go.RowKit
attribute [local go_sem ↓] Go.wp_at_zero Go.wp_at_succ
attribute [local go_sem] undef yielded

set_option maxHeartbeats 16000000 in
set_option maxRecDepth 100000 in
theorem rCheck_no (b:Bool) (m:ByteArray) (c:Bool) (k:ByteArray) (s1:m.size≤100000) (s2:k.size≤100000) (hno:¬(c=false∧∃ q,Rq q b m k)) (w:World) :
  Calls Tryz.prog 14 #[.agg #[.bool b,.string m,.bool c,.string k]] w (RetB w (.bool false)):=by
 have HC1:=Lib.hid (fun V=>isInt_any b m V)
 have HC2:=Lib.hid (fun V=>isInt_any c k V)
 rcases rq_cases b m c k with h | h | ⟨h1,h2⟩ | ⟨h1,h2,h3⟩ | ⟨h1,h2,h3,h4⟩ | ⟨x,d,hx,h3,h4,h5,h6⟩
 · exact absurd h hno
 · rw [h] at HC1
   clear h hno
   have X:=Lib.hid ((Sb.start w).new #[.bool b,.string m,.bool c,.string k] 25)
   have X:=Lib.hid (X.out.pick [0] [(w.heap.size,#[.bool b,.string m,.bool c,.string k],25)] [] (by simp) (by decide) (by simp))
   obtain ⟨a0,a1,a2,a3⟩:=X.out.c4 (i:=0) rfl
   go_enter Tryz.func14,Tryz.ntmps14
   go_wp2_with fail
   refine (HC1.out _).mono ?_
   rintro e w1 ⟨rfl,hb9⟩
   have X:=Lib.hid (X.out.next hb9)
   clear hb9
   clear a0 a1 a2 a3
   go_wp2
   go_ret
   exact ⟨rfl,X.out.bel⟩
 · rw [h1] at HC1
   rw [h2] at HC2
   clear h1 h2 hno
   have X:=Lib.hid ((Sb.start w).new #[.bool b,.string m,.bool c,.string k] 25)
   have X:=Lib.hid (X.out.pick [0] [(w.heap.size,#[.bool b,.string m,.bool c,.string k],25)] [] (by simp) (by decide) (by simp))
   obtain ⟨a0,a1,a2,a3⟩:=X.out.c4 (i:=0) rfl
   go_enter Tryz.func14,Tryz.ntmps14
   go_wp2_with fail
   refine (HC1.out _).mono ?_
   rintro e w1 ⟨rfl,hb9⟩
   have X:=Lib.hid (X.out.next hb9)
   clear hb9
   clear a0 a1 a2 a3
   obtain ⟨a0,a1,a2,a3⟩:=X.out.c4 (i:=0) rfl
   go_wp2_with fail
   refine (HC2.out _).mono ?_
   rintro e w2 ⟨rfl,hb9⟩
   have X:=Lib.hid (X.out.next hb9)
   clear hb9
   clear a0 a1 a2 a3
   obtain ⟨a0,a1,a2,a3⟩:=X.out.c4 (i:=0) rfl
   go_wp2
   go_ret
   exact ⟨rfl,X.out.bel⟩
 · rw [h1] at HC1
   rw [h2] at HC2
   clear h1 h2 hno
   subst h3
   have X:=Lib.hid ((Sb.start w).new #[.bool b,.string m,.bool true,.string k] 25)
   have X:=Lib.hid (X.out.pick [0] [(w.heap.size,#[.bool b,.string m,.bool true,.string k],25)] [] (by simp) (by decide) (by simp))
   obtain ⟨a0,a1,a2,a3⟩:=X.out.c4 (i:=0) rfl
   go_enter Tryz.func14,Tryz.ntmps14
   go_wp2_with fail
   refine (HC1.out _).mono ?_
   rintro e w1 ⟨rfl,hb9⟩
   have X:=Lib.hid (X.out.next hb9)
   clear hb9
   clear a0 a1 a2 a3
   obtain ⟨a0,a1,a2,a3⟩:=X.out.c4 (i:=0) rfl
   go_wp2_with fail
   refine (HC2.out _).mono ?_
   rintro e w2 ⟨rfl,hb9⟩
   have X:=Lib.hid (X.out.next hb9)
   clear hb9
   clear a0 a1 a2 a3
   obtain ⟨a0,a1,a2,a3⟩:=X.out.c4 (i:=0) rfl
   go_wp2
   go_ret
   exact ⟨rfl,X.out.bel⟩
 · rw [h1] at HC1
   rw [h2] at HC2
   subst h3
   have hl1:k.toList=[1]:=by rw [h4,ByteArray.toList_eq]
   have hk0:k.toList.isEmpty=false:=by rw [hl1];rfl
   have HD1:=Lib.hid (fun V=>rdigits b m V (by omega))
   have HD2:=Lib.hid (fun V=>rdigits false k V (by omega))
   have HN0:=Lib.hid (show nd (bval m)≤100000 from Nat.le_trans (nd_le (bval_lt m)) s1)
   have HN1:=Lib.hid (show nd (bval k)≤100000 from Nat.le_trans (nd_le (bval_lt k)) s2)
   clear h1 h2 hno h4
   have X:=Lib.hid ((Sb.start w).new #[.bool b,.string m,.bool false,.string k] 25)
   have X:=Lib.hid (X.out.pick [0] [(w.heap.size,#[.bool b,.string m,.bool false,.string k],25)] [] (by simp) (by decide) (by simp))
   obtain ⟨a0,a1,a2,a3⟩:=X.out.c4 (i:=0) rfl
   go_enter Tryz.func14,Tryz.ntmps14
   go_wp2_with fail
   refine (HC1.out _).mono ?_
   rintro e w1 ⟨rfl,hb9⟩
   have X:=Lib.hid (X.out.next hb9)
   clear hb9
   clear a0 a1 a2 a3
   obtain ⟨a0,a1,a2,a3⟩:=X.out.c4 (i:=0) rfl
   go_wp2_with fail
   refine (HC2.out _).mono ?_
   rintro e w2 ⟨rfl,hb9⟩
   have X:=Lib.hid (X.out.next hb9)
   clear hb9
   clear a0 a1 a2 a3
   obtain ⟨a0,a1,a2,a3⟩:=X.out.c4 (i:=0) rfl
   go_upto_region 5 with fail
   clear a0 a1 a2 a3
   refine wp_region_late (S:=fun w'=>(w'.cell? ⟨w.heap.size,0,none⟩=some (.bool b)∧w'.cell? ⟨w.heap.size,1,none⟩=some (.string m)∧w'.cell? ⟨w.heap.size,2,none⟩=some (.bool false)∧w'.cell? ⟨w.heap.size,3,none⟩=some (.string k))) (L:=[]) (by kernel_rfl) ?_
   have X:=Lib.hid X.out.drew
   obtain ⟨V0,hV⟩:=wexi X.out
   rw [←hV] at X ⊢
   clear hV
   refine tk (i:=0) (oi:=⟨some 23,_,_,_,_,_⟩) (v:=_) rfl (by kernel_rfl) (fun _ _ _ h=>h) (X.out.c4 (i:=0) rfl) (Or.inl ⟨by rfl,by intro w hSw;(try dsimp only at hSw);(first | (go_simp;done) | (go_simp;with_reducible rfl))⟩) ?_
   try simp only [Act.put,seti,set0,setS]
   refine tk (i:=1) (oi:=⟨some 24,_,_,_,_,_⟩) (v:=_) rfl (by kernel_rfl) (fun _ _ _ h=>h) (X.out.c4 (i:=0) rfl) (Or.inl ⟨by rfl,by intro w hSw;(try dsimp only at hSw);(first | (go_simp;done) | (go_simp;with_reducible rfl))⟩) ?_
   try simp only [Act.put,seti,set0,setS]
   refine tk (i:=3) (oi:=⟨some 26,_,_,_,_,_⟩) (v:=_) rfl (by kernel_rfl) (fun _ _ _ h=>h) (X.out.c4 (i:=0) rfl) (Or.inl ⟨by rfl,by intro w hSw;(try dsimp only at hSw);(first | (go_simp;done) | (go_simp;with_reducible rfl))⟩) ?_
   try simp only [Act.put,seti,set0,setS]
   refine tk (i:=4) (oi:=⟨some 27,_,_,_,_,_⟩) (v:=_) rfl (by kernel_rfl) (fun _ _ _ h=>h) (X.out.c4 (i:=0) rfl) (Or.inl ⟨by rfl,by intro w hSw;(try dsimp only at hSw);(first | (go_simp;done) | (go_simp;with_reducible rfl))⟩) ?_
   try simp only [Act.put,seti,set0,setS]
   refine wpLate_one (i:=2) (o:=⟨some 25,_,_,_,_,_⟩) (by kernel_rfl) rfl (fun K hK=>?_)
   go_simp
   (go_at_call 68;refine (HD1.out _).mono ?_;rintro e u1 ⟨A1,n1,c1,rfl,ht9,hb9,hf9⟩;have X:=Lib.hid (X.out.row hb9 ht9 hf9);clear hb9 ht9 hf9)
   try go_wp2_with fail
   refine hK.out _ _ (Or.inr (fun _=>X.out.c4 (i:=0) rfl)) ?_
   clear hK K
   try simp only [Act.put,seti,set0,setS]
   refine wpLate_one (i:=5) (o:=⟨some 28,_,_,_,_,_⟩) (by kernel_rfl) rfl (fun K hK=>?_)
   go_simp
   (go_at_call 68;refine (HD2.out _).mono ?_;rintro e u2 ⟨A2,n2,c2,rfl,ht9,hb9,hf9⟩;have X:=Lib.hid (X.out.row hb9 ht9 hf9);clear hb9 ht9 hf9)
   try go_wp2_with fail
   refine hK.out _ _ (Or.inr (fun _=>X.out.c4 (i:=0) rfl)) ?_
   clear hK K
   try simp only [Act.put,seti,set0,setS]
   refine wpLate_one (i:=6) (o:=⟨some 29,_,_,_,_,_⟩) (by kernel_rfl) rfl (fun K hK=>?_)
   go_simp
   (go_at_call 67;refine (rcommon _ _ _ _ _ _ _ _ _ (by have h:=(X.out.rw (i:=0) rfl).ln;have h2:=HN0.out;omega) (by have h:=(X.out.rw (i:=1) rfl).ln;have h2:=HN1.out;omega) (X.out.rw (i:=0) rfl) (X.out.rw (i:=1) rfl)).mono ?_;rintro e u3 ⟨A3,n3,c3,rfl,ht9,hb9⟩;have TG:=Lib.hid ht9;have X:=Lib.hid (X.out.next hb9);clear hb9 ht9)
   try go_wp2_with fail
   refine hK.out _ _ (Or.inr (fun _=>X.out.c4 (i:=0) rfl)) ?_
   clear hK K
   try simp only [Act.put,seti,set0,setS]
   refine tk (i:=7) (oi:=⟨some 3,_,_,_,_,_⟩) (v:=_) rfl (by kernel_rfl) (fun _ _ _ h=>h) (X.out.c4 (i:=0) rfl) (Or.inl ⟨by rfl,by intro w hSw;(try dsimp only at hSw);(first | (go_simp;done) | (go_simp;with_reducible rfl))⟩) ?_
   try simp only [Act.put,seti,set0,setS]
   refine wpLate_done (by kernel_rfl) ?_ _
   obtain ⟨AG,hAG⟩:∃ A,A=A3:=⟨_,rfl⟩
   obtain ⟨nG,hnG⟩:∃ A,A=n3:=⟨_,rfl⟩
   rw [←hAG,←hnG] at TG ⊢
   clear hAG hnG
   obtain ⟨a0,a1,a2,a3⟩:=X.out.c4 (i:=0) rfl
   clear hk0
   go_wp2
   go_ret
   exact ⟨rfl,X.out.bel⟩
 · rw [canon_yes hx] at HC1
   subst h3
   have hyd:enc ((d:Nat):Int)=.agg #[.bool false,.string k]:=by rw [h4];exact enc_mag d
   rw [canon_yes hyd] at HC2
   have hkn:=toList_ne (l:=[1]) (show k≠⟨#[1]⟩ from by rw [h4];exact mag_no_one (by omega))
   have hkn2:¬[1]=k.toList:=fun e=>hkn e.symm
   have hk0:k.toList.isEmpty=false:=by
    rw [List.isEmpty_eq_false_iff]
    exact toList_ne (l:=[]) (by rw [h4];exact mag_no_nil (by omega))
   have hg6:Nat.gcd (bval m) (bval k)≠1:=by rw [(enc_parts hx).2,h4,bval_mag,bval_mag];exact h6
   have hg0:0<Nat.gcd (bval m) (bval k):=by rw [h4,bval_mag];exact Nat.gcd_pos_of_pos_right _ (by omega)
   have HD1:=Lib.hid (fun V=>rdigits b m V (by omega))
   have HD2:=Lib.hid (fun V=>rdigits false k V (by omega))
   have HN0:=Lib.hid (show nd (bval m)≤100000 from Nat.le_trans (nd_le (bval_lt m)) s1)
   have HN1:=Lib.hid (show nd (bval k)≤100000 from Nat.le_trans (nd_le (bval_lt k)) s2)
   have HG6:=Lib.hid (And.intro hg6 hg0)
   clear hno h4 h5 h6 hx hyd hg6 hg0
   have X:=Lib.hid ((Sb.start w).new #[.bool b,.string m,.bool false,.string k] 25)
   have X:=Lib.hid (X.out.pick [0] [(w.heap.size,#[.bool b,.string m,.bool false,.string k],25)] [] (by simp) (by decide) (by simp))
   obtain ⟨a0,a1,a2,a3⟩:=X.out.c4 (i:=0) rfl
   go_enter Tryz.func14,Tryz.ntmps14
   go_wp2_with fail
   refine (HC1.out _).mono ?_
   rintro e w1 ⟨rfl,hb9⟩
   have X:=Lib.hid (X.out.next hb9)
   clear hb9
   clear a0 a1 a2 a3
   obtain ⟨a0,a1,a2,a3⟩:=X.out.c4 (i:=0) rfl
   go_wp2_with fail
   refine (HC2.out _).mono ?_
   rintro e w2 ⟨rfl,hb9⟩
   have X:=Lib.hid (X.out.next hb9)
   clear hb9
   clear a0 a1 a2 a3
   obtain ⟨a0,a1,a2,a3⟩:=X.out.c4 (i:=0) rfl
   go_upto_region 5 with fail
   clear a0 a1 a2 a3
   refine wp_region_late (S:=fun w'=>(w'.cell? ⟨w.heap.size,0,none⟩=some (.bool b)∧w'.cell? ⟨w.heap.size,1,none⟩=some (.string m)∧w'.cell? ⟨w.heap.size,2,none⟩=some (.bool false)∧w'.cell? ⟨w.heap.size,3,none⟩=some (.string k))) (L:=[]) (by kernel_rfl) ?_
   have X:=Lib.hid X.out.drew
   obtain ⟨V0,hV⟩:=wexi X.out
   rw [←hV] at X ⊢
   clear hV
   refine tk (i:=0) (oi:=⟨some 23,_,_,_,_,_⟩) (v:=_) rfl (by kernel_rfl) (fun _ _ _ h=>h) (X.out.c4 (i:=0) rfl) (Or.inl ⟨by rfl,by intro w hSw;(try dsimp only at hSw);(first | (go_simp;done) | (go_simp;with_reducible rfl))⟩) ?_
   try simp only [Act.put,seti,set0,setS]
   refine tk (i:=1) (oi:=⟨some 24,_,_,_,_,_⟩) (v:=_) rfl (by kernel_rfl) (fun _ _ _ h=>h) (X.out.c4 (i:=0) rfl) (Or.inl ⟨by rfl,by intro w hSw;(try dsimp only at hSw);(first | (go_simp;done) | (go_simp;with_reducible rfl))⟩) ?_
   try simp only [Act.put,seti,set0,setS]
   refine tk (i:=3) (oi:=⟨some 26,_,_,_,_,_⟩) (v:=_) rfl (by kernel_rfl) (fun _ _ _ h=>h) (X.out.c4 (i:=0) rfl) (Or.inl ⟨by rfl,by intro w hSw;(try dsimp only at hSw);(first | (go_simp;done) | (go_simp;with_reducible rfl))⟩) ?_
   try simp only [Act.put,seti,set0,setS]
   refine tk (i:=4) (oi:=⟨some 27,_,_,_,_,_⟩) (v:=_) rfl (by kernel_rfl) (fun _ _ _ h=>h) (X.out.c4 (i:=0) rfl) (Or.inl ⟨by rfl,by intro w hSw;(try dsimp only at hSw);(first | (go_simp;done) | (go_simp;with_reducible rfl))⟩) ?_
   try simp only [Act.put,seti,set0,setS]
   refine wpLate_one (i:=2) (o:=⟨some 25,_,_,_,_,_⟩) (by kernel_rfl) rfl (fun K hK=>?_)
   go_simp
   (go_at_call 68;refine (HD1.out _).mono ?_;rintro e u1 ⟨A1,n1,c1,rfl,ht9,hb9,hf9⟩;have X:=Lib.hid (X.out.row hb9 ht9 hf9);clear hb9 ht9 hf9)
   try go_wp2_with fail
   refine hK.out _ _ (Or.inr (fun _=>X.out.c4 (i:=0) rfl)) ?_
   clear hK K
   try simp only [Act.put,seti,set0,setS]
   refine wpLate_one (i:=5) (o:=⟨some 28,_,_,_,_,_⟩) (by kernel_rfl) rfl (fun K hK=>?_)
   go_simp
   (go_at_call 68;refine (HD2.out _).mono ?_;rintro e u2 ⟨A2,n2,c2,rfl,ht9,hb9,hf9⟩;have X:=Lib.hid (X.out.row hb9 ht9 hf9);clear hb9 ht9 hf9)
   try go_wp2_with fail
   refine hK.out _ _ (Or.inr (fun _=>X.out.c4 (i:=0) rfl)) ?_
   clear hK K
   try simp only [Act.put,seti,set0,setS]
   refine wpLate_one (i:=6) (o:=⟨some 29,_,_,_,_,_⟩) (by kernel_rfl) rfl (fun K hK=>?_)
   go_simp
   (go_at_call 67;refine (rcommon _ _ _ _ _ _ _ _ _ (by have h:=(X.out.rw (i:=0) rfl).ln;have h2:=HN0.out;omega) (by have h:=(X.out.rw (i:=1) rfl).ln;have h2:=HN1.out;omega) (X.out.rw (i:=0) rfl) (X.out.rw (i:=1) rfl)).mono ?_;rintro e u3 ⟨A3,n3,c3,rfl,ht9,hb9⟩;have TG:=Lib.hid ht9;have X:=Lib.hid (X.out.next hb9);clear hb9 ht9)
   try go_wp2_with fail
   refine hK.out _ _ (Or.inr (fun _=>X.out.c4 (i:=0) rfl)) ?_
   clear hK K
   try simp only [Act.put,seti,set0,setS]
   refine tk (i:=7) (oi:=⟨some 3,_,_,_,_,_⟩) (v:=_) rfl (by kernel_rfl) (fun _ _ _ h=>h) (X.out.c4 (i:=0) rfl) (Or.inl ⟨by rfl,by intro w hSw;(try dsimp only at hSw);(first | (go_simp;done) | (go_simp;with_reducible rfl))⟩) ?_
   try simp only [Act.put,seti,set0,setS]
   refine wpLate_done (by kernel_rfl) ?_ _
   obtain ⟨AG,hAG⟩:∃ A,A=A3:=⟨_,rfl⟩
   obtain ⟨nG,hnG⟩:∃ A,A=n3:=⟨_,rfl⟩
   rw [←hAG,←hnG] at TG ⊢
   clear hAG hnG
   obtain ⟨a0,a1,a2,a3⟩:=X.out.c4 (i:=0) rfl
   have hn0:0<nG:=by rw [TG.out.ln];exact nd_pos HG6.out.2
   obtain ⟨gb,go,rfl,_,hcl⟩:=TG.out.dg.rd hn0
   have hc0:=hcl 0 hn0
   rw [Nat.add_zero] at hc0
   by_cases hn1:nG=1
   · have hne : ((D 256 (Nat.gcd (bval m) (bval k)) 0 : Int) == 1) = false := by
      have h1:=TG.out.ln
      have h2:=nd_lt (Nat.gcd (bval m) (bval k))
      rw [←h1,hn1] at h2
      have h3:D 256 (Nat.gcd (bval m) (bval k)) 0=Nat.gcd (bval m) (bval k):=by unfold D;rw [Nat.pow_zero,Nat.div_one];exact Nat.mod_eq_of_lt (by omega)
      rw [h3]
      have h4:=HG6.out.1
      simp
      omega
     have hlen:((nG:Int)==1)=true:=by rw [hn1];rfl
     generalize D 256 (Nat.gcd (bval m) (bval k)) 0=dg at *
     clear HG6 hcl
     go_wp2
     go_ret
     exact ⟨rfl,X.out.bel⟩
   · have hlen:((nG:Int)==1)=false:=by simp;omega
     clear HG6 hcl
     go_wp2
     go_ret
     exact ⟨rfl,X.out.bel⟩

set_option maxHeartbeats 16000000 in
set_option maxRecDepth 100000 in
theorem rCheck_yes {q:Rat} {b:Bool} {m k:ByteArray} (hq:Rq q b m k) (s1:m.size≤100000) (s2:k.size≤100000) (w:World) :
  Calls Tryz.prog 14 #[.agg #[.bool b,.string m,.bool false,.string k]] w (RetB w (.bool true)):=by
 have HC1:=Lib.hid (fun V=>isInt_any b m V)
 have HC2:=Lib.hid (fun V=>isInt_any false k V)
 rw [canon_yes hq.num] at HC1
 by_cases hd:q.den=1
 · obtain rfl:=hq.den1 hd
   rw [canon_yes (enc_nought)] at HC2
   clear hd hq
   have X:=Lib.hid ((Sb.start w).new #[.bool b,.string m,.bool false,.string ⟨#[]⟩] 25)
   have X:=Lib.hid (X.out.pick [0] [(w.heap.size,#[.bool b,.string m,.bool false,.string ⟨#[]⟩],25)] [] (by simp) (by decide) (by simp))
   obtain ⟨a0,a1,a2,a3⟩:=X.out.c4 (i:=0) rfl
   go_enter Tryz.func14,Tryz.ntmps14
   go_wp2_with fail
   refine (HC1.out _).mono ?_
   rintro e w1 ⟨rfl,hb9⟩
   have X:=Lib.hid (X.out.next hb9)
   clear hb9
   clear a0 a1 a2 a3
   obtain ⟨a0,a1,a2,a3⟩:=X.out.c4 (i:=0) rfl
   go_wp2_with fail
   refine (HC2.out _).mono ?_
   rintro e w2 ⟨rfl,hb9⟩
   have X:=Lib.hid (X.out.next hb9)
   clear hb9
   clear a0 a1 a2 a3
   obtain ⟨a0,a1,a2,a3⟩:=X.out.c4 (i:=0) rfl
   go_wp2
   go_ret
   exact ⟨rfl,X.out.bel⟩
 · have hk:=hq.den2 hd
   have hyd:enc ((q.den:Nat):Int)=.agg #[.bool false,.string k]:=by rw [hk];exact enc_mag q.den
   rw [canon_yes hyd] at HC2
   have hkn:=toList_ne (l:=[1]) (show k≠⟨#[1]⟩ from by rw [hk];exact mag_no_one hd)
   have hkn2:¬[1]=k.toList:=fun e=>hkn e.symm
   have hk0:k.toList.isEmpty=false:=by
    rw [List.isEmpty_eq_false_iff]
    exact toList_ne (l:=[]) (by rw [hk];exact mag_no_nil q.den_nz)
   have hg6:Nat.gcd (bval m) (bval k)=1:=by rw [hq.bval,hk,bval_mag];exact q.reduced
   have HD1:=Lib.hid (fun V=>rdigits b m V (by omega))
   have HD2:=Lib.hid (fun V=>rdigits false k V (by omega))
   have HN0:=Lib.hid (show nd (bval m)≤100000 from Nat.le_trans (nd_le (bval_lt m)) s1)
   have HN1:=Lib.hid (show nd (bval k)≤100000 from Nat.le_trans (nd_le (bval_lt k)) s2)
   have HG6:=Lib.hid hg6
   clear hd hk hyd hq hg6
   have X:=Lib.hid ((Sb.start w).new #[.bool b,.string m,.bool false,.string k] 25)
   have X:=Lib.hid (X.out.pick [0] [(w.heap.size,#[.bool b,.string m,.bool false,.string k],25)] [] (by simp) (by decide) (by simp))
   obtain ⟨a0,a1,a2,a3⟩:=X.out.c4 (i:=0) rfl
   go_enter Tryz.func14,Tryz.ntmps14
   go_wp2_with fail
   refine (HC1.out _).mono ?_
   rintro e w1 ⟨rfl,hb9⟩
   have X:=Lib.hid (X.out.next hb9)
   clear hb9
   clear a0 a1 a2 a3
   obtain ⟨a0,a1,a2,a3⟩:=X.out.c4 (i:=0) rfl
   go_wp2_with fail
   refine (HC2.out _).mono ?_
   rintro e w2 ⟨rfl,hb9⟩
   have X:=Lib.hid (X.out.next hb9)
   clear hb9
   clear a0 a1 a2 a3
   obtain ⟨a0,a1,a2,a3⟩:=X.out.c4 (i:=0) rfl
   go_upto_region 5 with fail
   clear a0 a1 a2 a3
   refine wp_region_late (S:=fun w'=>(w'.cell? ⟨w.heap.size,0,none⟩=some (.bool b)∧w'.cell? ⟨w.heap.size,1,none⟩=some (.string m)∧w'.cell? ⟨w.heap.size,2,none⟩=some (.bool false)∧w'.cell? ⟨w.heap.size,3,none⟩=some (.string k))) (L:=[]) (by kernel_rfl) ?_
   have X:=Lib.hid X.out.drew
   obtain ⟨V0,hV⟩:=wexi X.out
   rw [←hV] at X ⊢
   clear hV
   refine tk (i:=0) (oi:=⟨some 23,_,_,_,_,_⟩) (v:=_) rfl (by kernel_rfl) (fun _ _ _ h=>h) (X.out.c4 (i:=0) rfl) (Or.inl ⟨by rfl,by intro w hSw;(try dsimp only at hSw);(first | (go_simp;done) | (go_simp;with_reducible rfl))⟩) ?_
   try simp only [Act.put,seti,set0,setS]
   refine tk (i:=1) (oi:=⟨some 24,_,_,_,_,_⟩) (v:=_) rfl (by kernel_rfl) (fun _ _ _ h=>h) (X.out.c4 (i:=0) rfl) (Or.inl ⟨by rfl,by intro w hSw;(try dsimp only at hSw);(first | (go_simp;done) | (go_simp;with_reducible rfl))⟩) ?_
   try simp only [Act.put,seti,set0,setS]
   refine tk (i:=3) (oi:=⟨some 26,_,_,_,_,_⟩) (v:=_) rfl (by kernel_rfl) (fun _ _ _ h=>h) (X.out.c4 (i:=0) rfl) (Or.inl ⟨by rfl,by intro w hSw;(try dsimp only at hSw);(first | (go_simp;done) | (go_simp;with_reducible rfl))⟩) ?_
   try simp only [Act.put,seti,set0,setS]
   refine tk (i:=4) (oi:=⟨some 27,_,_,_,_,_⟩) (v:=_) rfl (by kernel_rfl) (fun _ _ _ h=>h) (X.out.c4 (i:=0) rfl) (Or.inl ⟨by rfl,by intro w hSw;(try dsimp only at hSw);(first | (go_simp;done) | (go_simp;with_reducible rfl))⟩) ?_
   try simp only [Act.put,seti,set0,setS]
   refine wpLate_one (i:=2) (o:=⟨some 25,_,_,_,_,_⟩) (by kernel_rfl) rfl (fun K hK=>?_)
   go_simp
   (go_at_call 68;refine (HD1.out _).mono ?_;rintro e u1 ⟨A1,n1,c1,rfl,ht9,hb9,hf9⟩;have X:=Lib.hid (X.out.row hb9 ht9 hf9);clear hb9 ht9 hf9)
   try go_wp2_with fail
   refine hK.out _ _ (Or.inr (fun _=>X.out.c4 (i:=0) rfl)) ?_
   clear hK K
   try simp only [Act.put,seti,set0,setS]
   refine wpLate_one (i:=5) (o:=⟨some 28,_,_,_,_,_⟩) (by kernel_rfl) rfl (fun K hK=>?_)
   go_simp
   (go_at_call 68;refine (HD2.out _).mono ?_;rintro e u2 ⟨A2,n2,c2,rfl,ht9,hb9,hf9⟩;have X:=Lib.hid (X.out.row hb9 ht9 hf9);clear hb9 ht9 hf9)
   try go_wp2_with fail
   refine hK.out _ _ (Or.inr (fun _=>X.out.c4 (i:=0) rfl)) ?_
   clear hK K
   try simp only [Act.put,seti,set0,setS]
   refine wpLate_one (i:=6) (o:=⟨some 29,_,_,_,_,_⟩) (by kernel_rfl) rfl (fun K hK=>?_)
   go_simp
   (go_at_call 67;refine (rcommon _ _ _ _ _ _ _ _ _ (by have h:=(X.out.rw (i:=0) rfl).ln;have h2:=HN0.out;omega) (by have h:=(X.out.rw (i:=1) rfl).ln;have h2:=HN1.out;omega) (X.out.rw (i:=0) rfl) (X.out.rw (i:=1) rfl)).mono ?_;rintro e u3 ⟨A3,n3,c3,rfl,ht9,hb9⟩;have TG:=Lib.hid ht9;have X:=Lib.hid (X.out.next hb9);clear hb9 ht9)
   try go_wp2_with fail
   refine hK.out _ _ (Or.inr (fun _=>X.out.c4 (i:=0) rfl)) ?_
   clear hK K
   try simp only [Act.put,seti,set0,setS]
   refine tk (i:=7) (oi:=⟨some 3,_,_,_,_,_⟩) (v:=_) rfl (by kernel_rfl) (fun _ _ _ h=>h) (X.out.c4 (i:=0) rfl) (Or.inl ⟨by rfl,by intro w hSw;(try dsimp only at hSw);(first | (go_simp;done) | (go_simp;with_reducible rfl))⟩) ?_
   try simp only [Act.put,seti,set0,setS]
   refine wpLate_done (by kernel_rfl) ?_ _
   obtain ⟨AG,hAG⟩:∃ A,A=A3:=⟨_,rfl⟩
   obtain ⟨nG,hnG⟩:∃ A,A=n3:=⟨_,rfl⟩
   rw [←hAG,←hnG] at TG ⊢
   clear hAG hnG
   obtain ⟨a0,a1,a2,a3⟩:=X.out.c4 (i:=0) rfl
   have TG:=TG
   rw [HG6.out] at TG
   have hn1:nG=1:=by rw [TG.out.ln];exact nd_one
   have hn0:0<nG:=by omega
   obtain ⟨gb,go,rfl,_,hcl⟩:=TG.out.dg.rd hn0
   have hc0:=hcl 0 hn0
   rw [Nat.add_zero] at hc0
   have hd1:(D 256 1 0:Nat)=1:=by decide
   rw [hd1] at hc0
   have hlen:((nG:Int)==1)=true:=by rw [hn1];rfl
   clear hcl
   go_wp2
   go_ret
   have hkb:(k.toList==[1])=false:=by simpa using hkn
   exact ⟨by show Ending.returned (.bool (!(k.toList==[1])))=_;rw [hkb];rfl,X.out.bel⟩
end Go.Proofs.YtdbhahiieokplaaGreatDoor


namespace Go.Proofs.YtdbhahiieokplaaGreatDoor
open Go.RowKit
attribute [local go_sem ↓] Go.wp_at_zero Go.wp_at_succ
attribute [local go_sem] undef yielded

set_option maxHeartbeats 1000000 in
set_option maxRecDepth 100000 in
theorem num_any (b:Bool) (m:ByteArray) (c:Bool) (k:ByteArray) (w:World):Calls Tryz.prog 153 #[.agg #[.bool b,.string m,.bool c,.string k]] w (RetB w (.agg #[.bool b,.string m])):=by
 have KK:=Lib.hid (Kb.start w #[.bool b,.string m,.bool c,.string k] #[.bool false,.string ⟨#[]⟩] 25 23)
 obtain ⟨p0,p1,p2,p3⟩:=blk4 KK.out.k1
 obtain ⟨t0,t1,f0,f1⟩:=blk_cells KK.out.k2
 go_enter Tryz.func153,Tryz.ntmps153
 go_wp2
 exact bodyPost_ret (v:=.agg #[.bool b,.string m]) (by simp [results,Tryz.results153,go_sem,t0,t1]) rfl ⟨rfl,(Kb.start w _ _ _ _).bel⟩

end Go.Proofs.YtdbhahiieokplaaGreatDoor


namespace Go.Proofs.YtdbhahiieokplaaGreatDoor
open Go.RowKit
attribute [local go_sem ↓] Go.wp_at_zero Go.wp_at_succ

def Zs (n:Nat) (z:Int):Prop:=z.natAbs<256^n
theorem Zs.sz {n:Nat} {z:Int} (hz:Zs n z) {b:Bool} {m:ByteArray} (h:enc z=.agg #[.bool b,.string m]):m.size≤n:=by
 rw [(enc_parts h).2]
 exact mag_size_le hz
theorem Zs.mul {n m:Nat} {x y:Int} (hx:Zs n x) (hy:Zs m y):Zs (n+m) (x*y):=by
 unfold Zs
 rw [Int.natAbs_mul,Nat.pow_add]
 exact Nat.mul_lt_mul'' hx hy
theorem Zs.root {n:Nat} {x:Int} (h:Zs n x):Zs n ((rt x.natAbs:Nat):Int):=by
 unfold Zs
 rw [Int.natAbs_natCast]
 exact Nat.lt_of_le_of_lt (rt_self _) h
theorem Zs.below {n:Nat} {x:Int} (h:Zs n x):Zs (n+1) (-1-x):=by
 unfold Zs at h ⊢
 rw [Nat.pow_succ]
 have:=Nat.pow_pos (a:=256) (n:=n) (by decide)
 generalize 256^n=Z at *
 omega
theorem Sz.n {n:Nat} {q:Rat} (h:Sz n q):Zs n q.num:=h.1
theorem Sz.d {n:Nat} {q:Rat} (h:Sz n q):Zs n (q.den:Int):=by unfold Zs;rw [Int.natAbs_natCast];exact h.2
def fN (x:Sg.Rl):Int:=((x.p.den:Int)*(x.a.den:Int))*(x.p.den:Int)*x.a.num
def floorV (x:Sg.Rl):Int:=if x.a=0 then x.p.num / (x.p.den:Int) else (x.p.num*(x.a.den:Int)+(if x.s<0 then -1-((rt (fN x).natAbs:Nat):Int) else ((rt (fN x).natAbs:Nat):Int))) / ((x.p.den:Int)*(x.a.den:Int))
theorem fN_pos {x:Sg.Rl} (h:0<x.a):0≤fN x:=by
 unfold fN
 have h1:0<x.a.num:=num_pos_iff.2 h
 have h2:(0:Int)<x.p.den:=by have:=x.p.den_pos;omega
 have h3:(0:Int)<x.a.den:=by have:=x.a.den_pos;omega
 exact Int.le_of_lt (Int.mul_pos (Int.mul_pos (Int.mul_pos h2 h3) h2) h1)

set_option maxHeartbeats 8000000 in
set_option maxRecDepth 100000 in
theorem rfloor_rat {p:Rat} {b1:Bool} {m1 k1:ByteArray} {s1:Bool} {b2:Bool} {m2:ByteArray} (hp:Rq p b1 m1 k1) (hz:enc (p.num / (p.den:Int))=.agg #[.bool b2,.string m2]) (zp:Sz 10000 p) (w:World) :
  Calls Tryz.prog 122 #[.agg #[.bool b1,.string m1,.bool false,.string k1,.bool false,.string ⟨#[]⟩,.bool false,.string ⟨#[]⟩,.bool s1]] w (RetB w (.agg #[.bool b2,.string m2])):=by
 have t1:=zp.m hp (Nat.le_refl _)
 have C1:=kn w (isRat_yes b1 s1 m1 k1)
 have C2:=kn w (ratFloor_f hp hz (by omega) (by omega))
 have RS:=Lib.hid Tryz.results122
 clear hp hz zp t1
 go_enter Tryz.func122,Tryz.ntmps122
 exact wk0

theorem zret {F:FuncId} {A:Array Value} {z:Int} {b:Bool} {m:ByteArray} (hz:enc z=.agg #[.bool b,.string m]) {w:World} (h:Calls Tryz.prog F A w (RetZ w z)):Calls Tryz.prog F A w (RetB w (.agg #[.bool b,.string m])):=by
 unfold RetZ at h;rw [hz] at h;exact h
theorem Zs.of_size {n:Nat} {x:Int} {b:Bool} {m:ByteArray} (hx:enc x=.agg #[.bool b,.string m]) (s:m.size≤n):Zs n x:=by
 unfold Zs
 have:=bval_lt m
 rw [(enc_parts hx).2,bval_mag] at this
 exact Nat.lt_of_lt_of_le this (Nat.pow_le_pow_right (by decide) (by rw [←(enc_parts hx).2];exact s))
theorem Zs.plus {n:Nat} {x y:Int} (zx:Zs n x) (zy:Zs n y):Zs (n+1) (x+y):=by
 unfold Zs at *
 rw [Nat.pow_succ]
 have:=Nat.pow_pos (a:=256) (n:=n) (by decide)
 generalize 256^n=Z at *
 omega
theorem sum_size {x y:Int} {b1 b2 b3:Bool} {m1 m2 m3:ByteArray} (hx:enc x=.agg #[.bool b1,.string m1]) (hy:enc y=.agg #[.bool b2,.string m2]) (s1:m1.size≤9000) (s2:m2.size≤9000) (h:enc (x+y)=.agg #[.bool b3,.string m3]):m3.size≤100000:=by
 have zx:=Zs.of_size hx s1
 have zy:=Zs.of_size hy s2
 have:=zx.plus zy
 exact Nat.le_trans (this.sz h) (by decide)

set_option maxHeartbeats 8000000 in
set_option maxRecDepth 100000 in
theorem rfloor_irr {x:Sg.Rl} {b1 c1 s1:Bool} {m1 k1 n1 l1:ByteArray} {b2:Bool} {m2:ByteArray} (hx:Rv x b1 m1 k1 c1 n1 l1 s1) (hx0:0<x.a) (hne:x.a≠0) (hz:enc (floorV x)=.agg #[.bool b2,.string m2]) (zx:Rz 2000 x) (w:World) (hE:Env w) :
  Calls Tryz.prog 122 #[.agg #[.bool b1,.string m1,.bool false,.string k1,.bool c1,.string n1,.bool false,.string l1,.bool s1]] w (RetB w (.agg #[.bool b2,.string m2])):=by
 have hs:s1=decide (x.s<0):=hx.neg
 obtain ⟨f,hf⟩:∃ f:Int,f=floorV x:=⟨_,rfl⟩
 rw [←hf] at hz
 unfold floorV at hf
 rw [if_neg hne] at hf
 obtain ⟨N,hN⟩:∃ N,N=fN x:=⟨_,rfl⟩
 have hN0:0≤N:=by rw [hN];exact fN_pos hx0
 have zN:Zs 8000 N:=by rw [hN];exact ((zx.p.d.mul zx.r.d).mul zx.p.d).mul zx.r.n
 have eN:N=(x.p.den:Int)*(x.a.den:Int)*(x.p.den:Int)*x.a.num:=hN
 rw [←hN] at hf
 have zb:=zx.p.d
 have zd:=zx.r.d
 have hb0:(x.p.den:Int)≠0:=by have:=x.p.den_pos;omega
 have hd0:(x.a.den:Int)≠0:=by have:=x.a.den_pos;omega
 have eb:enc (x.p.den:Int)=.agg #[.bool false,.string (mag x.p.den)]:=enc_mag _
 have ed:enc (x.a.den:Int)=.agg #[.bool false,.string (mag x.a.den)]:=enc_mag _
 have ea:=hx.r.num
 have en:=hx.p.num
 have za:=zx.r.n
 have zn:=zx.p.n
 have C2:=Lib.hid (fun V (hb:Below w.heap.size w V)=>den_f hx.p V (hE.next hb))
 have C3:=Lib.hid (fun V (hb:Below w.heap.size w V)=>den_f hx.r V (hE.next hb))
 generalize (x.p.den:Int)=b at *
 generalize (x.a.den:Int)=d at *
 generalize mag x.p.den=yb at *
 generalize mag x.a.den=yd at *
 generalize x.p.num=n at *
 generalize x.a.num=a at *
 obtain ⟨z1,y1,e1⟩:=enc_form (b*d)
 obtain ⟨z2,y2,e2⟩:=enc_form (n*d)
 obtain ⟨z3,y3,e3⟩:=enc_form (b*d*b)
 obtain ⟨z4,y4,e4⟩:=enc_form N
 have zr:=zN.root
 have hr0:enc ((rt N.natAbs:Nat):Int)=enc ((rt N.natAbs:Nat):Int):=rfl
 obtain ⟨z5,y5,e5⟩:=enc_form ((rt N.natAbs:Nat):Int)
 have C10:=Lib.hid (fun V (_:Below w.heap.size w V)=>sqrt_f e4 hN0 (Nat.le_trans (zN.sz e4) (by decide)) e5 V)
 generalize ((rt N.natAbs:Nat):Int)=r at *
 obtain ⟨z6,y6,e6⟩:=enc_form (-1:Int)
 obtain ⟨z7,y7,e7⟩:=enc_form (-1-r)
 obtain ⟨z8,y8,e8⟩:=enc_form (n*d+r)
 obtain ⟨z9,y9,e9⟩:=enc_form (n*d+(-1-r))
 obtain ⟨z10,y10,e10⟩:=enc_form ((n*d+(if s1 then -1-r else r))%(b*d))
 have t1:=(zb.mul zd).sz e1
 have t2:=(zn.mul zd).sz e2
 have t3:=((zb.mul zd).mul zb).sz e3
 have t4:=zN.sz e4
 have t5:=zr.sz e5
 have t6:y6.size≤1:=Zs.sz (n:=1) (z:=-1) (by unfold Zs;decide) e6
 have t7:=zr.below.sz e7
 have t8:y8.size≤100000:=sum_size e2 e5 (by omega) (by omega) e8
 have t9:y9.size≤100000:=sum_size e2 e7 (by omega) (by omega) e9
 have tb:=zb.sz eb
 have td:=zd.sz ed
 have tn:=zn.sz en
 have ta:=za.sz ea
 have hden:b*d≠0:=Int.mul_ne_zero hb0 hd0
 have C15:=Lib.hid (fun V (_:Below w.heap.size w V) (h:s1=false)=>divMod_f e8 e1 (Nat.le_trans t8 (by decide)) (by omega) hden hz (by rw [h] at e10;exact e10) (by rw [hf,if_neg (by rw [h] at hs;simpa using hs.symm)]) rfl V)
 have C16:=Lib.hid (fun V (_:Below w.heap.size w V) (h:s1=true)=>divMod_f e9 e1 (Nat.le_trans t9 (by decide)) (by omega) hden hz (by rw [h] at e10;exact e10) (by rw [hf,if_pos (by rw [h] at hs;simpa using hs.symm)]) rfl V)
 have C11:=Lib.hid (fun V (_:Below w.heap.size w V)=>zret e6 (fromInt_any (-1) (by omega) (by omega) V))
 have C1:=kn w (isRat_no hx hne)
 have C4:=kn w (mul_f eb ed (by omega) (by omega) e1 rfl)
 have C5:=kn w (num_any b1 m1 false k1)
 have C6:=kn w (mul_f en ed (by omega) (by omega) e2 rfl)
 have C7:=kn w (mul_f e1 eb (by omega) (by omega) e3 rfl)
 have C8:=kn w (num_any c1 n1 false l1)
 have C9:=kn w (mul_f e3 ea (by omega) (by omega) e4 eN)
 have C12:=kn w (sub_f e6 e5 (by omega) (by omega) e7 rfl)
 have C13:=kn w (add_f e2 e5 (by omega) (by omega) e8 rfl)
 have C14:=kn w (add_f e2 e7 (by omega) (by omega) e9 rfl)
 have Z1:Hid (∀ {p:Prop} (h:p:=by ((refine (fun (hh:s1=false)=>?_) ?_;rotate_left;assumption;subst hh);all_goals exact wk)),p):=@fun _ h=>h
 have Z2:Hid (∀ {p:Prop} (h:p:=by ((refine (fun (hh:s1=true)=>?_) ?_;rotate_left;assumption;subst hh);all_goals exact wk)),p):=@fun _ h=>h
 have U1:Hid (∀ {p:Prop} (h:p:=by ((fail_if_success (go_not_at_region 3));(fail_if_success (have:=hLL));obtain ⟨LL,hLL⟩:=lexi X.out;go_cut [3,4] (fun s0 s1 wx=>∃ g0 g1,s0=.pointer (some ⟨g0,0,none⟩)∧s1=.pointer (some ⟨g1,0,none⟩)∧Sb w (LL++[(g0,#[.bool false,.string yb],23),(g1,#[.bool false,.string yd],23)]) [] wx);all_goals exact wkc)),p):=@fun _ h=>h
 have U2:Hid (∀ {p:Prop} (h:p:=by ((fail_if_success (go_not_at_region 5));(fail_if_success (have:=hLL));obtain ⟨LL,hLL⟩:=lexi X.out;go_cut [6] (fun s0 wx=>∃ g0,s0=.pointer (some ⟨g0,0,none⟩)∧Sb w (LL++[(g0,#[.bool z2,.string y2],23)]) [] wx);all_goals exact wkc)),p):=@fun _ h=>h
 have U3:Hid (∀ {p:Prop} (h:p:=by ((fail_if_success (go_not_at_region 6));(fail_if_success (have:=hLL));obtain ⟨LL,hLL⟩:=lexi X.out;go_cut [7] (fun s0 wx=>∃ g0,s0=.pointer (some ⟨g0,0,none⟩)∧Sb w (LL++[(g0,#[.bool z5,.string y5],23)]) [] wx);all_goals exact wkc)),p):=@fun _ h=>h
 have U4:Hid (∀ {p:Prop} (h:p:=by ((fail_if_success (go_not_at_region 9));(fail_if_success (have:=hLL));obtain ⟨LL,hLL⟩:=lexi X.out;go_cut [9,10] (fun s0 s1 wx=>∃ g0 g1,s0=.pointer (some ⟨g0,0,none⟩)∧s1=.pointer (some ⟨g1,0,none⟩)∧Sb w (LL++[(g0,#[.bool b2,.string m2],23),(g1,#[.bool z10,.string y10],23)]) [] wx);all_goals exact wkc)),p):=@fun _ h=>h
 have M1:Hid (∀ {p:Prop} (h:p:=by first | exact ⟨_,_,rfl,rfl,X.out.pick [0,1,2,3] _ [] rfl (by decide) (by simp)⟩ | exact ⟨_,_,rfl,rfl,X.out.pick [0,1,3,2] _ [] rfl (by decide) (by simp)⟩ | exact ⟨_,_,rfl,rfl,X.out.pick [0,1,2,3,4,5,6,7,8] _ [] rfl (by decide) (by simp)⟩ | exact ⟨_,_,rfl,rfl,X.out.pick [0,1,2,3,4,5,6,8,7] _ [] rfl (by decide) (by simp)⟩),p):=@fun _ h=>h
 have RS:=Lib.hid Tryz.results122
 clear hx hx0 hz zx hs hf hN hN0 zN eN zb zd hb0 hd0 eb ed ea en za zn e1 e2 e3 e4 zr hr0 e5 e6 e7 e8 e9 e10 t1 t2 t3 t4 t5 t6 t7 t8 t9 tb td tn ta hden hE
 go_enter Tryz.func122,Tryz.ntmps122
 exact wk0

theorem rfloor_f {x:Sg.Rl} {b1 c1 s1:Bool} {m1 k1 n1 l1:ByteArray} {b2:Bool} {m2:ByteArray} (hx:Rv x b1 m1 k1 c1 n1 l1 s1) (ok:x.Ok) (hz:enc (floorV x)=.agg #[.bool b2,.string m2]) (zx:Rz 2000 x) (w:World) (hE:Env w):Calls Tryz.prog 122 #[.agg #[.bool b1,.string m1,.bool false,.string k1,.bool c1,.string n1,.bool false,.string l1,.bool s1]] w (RetB w (.agg #[.bool b2,.string m2])):=by
 by_cases h0:x.a=0
 · obtain ⟨rfl,rfl,rfl⟩:=hx.r.nought.1 h0
   unfold floorV at hz
   rw [if_pos h0] at hz
   exact rfloor_rat hx.p hz (zx.p.up (by omega)) w
 · exact rfloor_irr hx (ok_pos ok h0) h0 hz zx w hE
end Go.Proofs.YtdbhahiieokplaaGreatDoor


namespace Go.Proofs.YtdbhahiieokplaaGreatDoor
open Go.RowKit
attribute [local go_sem ↓] Go.wp_at_zero Go.wp_at_succ

theorem nsq_nat {n r:Nat} (h1:r*r<n) (h2:n<(r+1)*(r+1)):Sg.NSq (n:Rat):=by
 intro z e
 obtain ⟨s1,s2⟩:=sq_parts z
 rw [e] at s1
 have h3:((n:Rat)).num=(n:Int):=rfl
 rw [h3] at s1
 generalize z.num.natAbs=m at s1
 have h4:n=m*m:=by exact_mod_cast s1
 rcases Nat.lt_or_ge r m with h | h
 · have:=Nat.mul_le_mul (show r+1≤m from h) (show r+1≤m from h)
   rw [←h4] at this
   exact absurd h2 (Nat.not_lt.2 this)
 · have:=Nat.mul_le_mul h h
   rw [←h4] at this
   exact absurd h1 (Nat.not_lt.2 this)
theorem nsq_two:Sg.NSq 2:=nsq_nat (n:=2) (r:=1) (by decide) (by decide)
theorem qo:Rq 1 false ⟨#[1]⟩ ⟨#[]⟩:=⟨by rw [←mag_one];exact enc_mag 1,by rw [show (1:Rat).den=1 from rfl];exact dm_one.symm⟩
theorem qt:Rq 2 false ⟨#[2]⟩ ⟨#[]⟩:=⟨by rw [←mag_2];exact enc_mag 2,by rw [show (2:Rat).den=1 from rfl];exact dm_one.symm⟩
end Go.Proofs.YtdbhahiieokplaaGreatDoor


namespace Go.Proofs.YtdbhahiieokplaaGreatDoor
open Go.RowKit
attribute [local go_sem ↓] Go.wp_at_zero Go.wp_at_succ
theorem hull1_f {q1 q2:Rat} {b1 b2 b11 b21:Bool} {m1 k1 m2 k2 m11 k11 m21 k21:ByteArray} (h1:Rq q1 b1 m1 k1) (h2:Rq q2 b2 m2 k2) (z1:Sz 10000 q1) (z2:Sz 10000 q2) (h11:Rq (mn q1 q2) b11 m11 k11) (h21:Rq (mx q1 q2) b21 m21 k21) (w:World) (hE:Env w) {T:TypeId} (g:Nat) (hg:w.heap[g]?=some (.cells #[.bool b2,.string m2,.bool false,.string k2] T (0,0))):Calls Tryz.prog 85 #[.agg #[.bool b1,.string m1,.bool false,.string k1],.slice (some ⟨g,0,none⟩) 1 1] w (RetB w (.agg #[.bool b11,.string m11,.bool false,.string k11,.bool b21,.string m21,.bool false,.string k21])):=by
 exact hull_w1 w (old_of hg 0 [.bool b2,.string m2,.bool false,.string k2] (fun j=>by simp)).out (fun V _=>exact_any V) (fun V hb=>min_z h1 h2 h11 (z1) z2 V (hE.next hb)) (fun V hb=>max_z h1 h2 h21 (z1) z2 V (hE.next hb))
theorem hull2_f {q1 q2 q3:Rat} {b1 b2 b3 b12 b22:Bool} {m1 k1 m2 k2 m3 k3 m12 k12 m22 k22:ByteArray} (h1:Rq q1 b1 m1 k1) (h2:Rq q2 b2 m2 k2) (h3:Rq q3 b3 m3 k3) (z1:Sz 10000 q1) (z2:Sz 10000 q2) (z3:Sz 10000 q3) (h12:Rq (mn (mn q1 q2) q3) b12 m12 k12) (h22:Rq (mx (mx q1 q2) q3) b22 m22 k22) (w:World) (hE:Env w) {T:TypeId} (g:Nat) (hg:w.heap[g]?=some (.cells #[.bool b2,.string m2,.bool false,.string k2,.bool b3,.string m3,.bool false,.string k3] T (0,0))):Calls Tryz.prog 85 #[.agg #[.bool b1,.string m1,.bool false,.string k1],.slice (some ⟨g,0,none⟩) 2 2] w (RetB w (.agg #[.bool b12,.string m12,.bool false,.string k12,.bool b22,.string m22,.bool false,.string k22])):=by
 obtain ⟨b11,m11,k11,h11⟩:=Rq.some_ ((mn q1 q2))
 obtain ⟨b21,m21,k21,h21⟩:=Rq.some_ ((mx q1 q2))
 exact hull_w2 w (old_of hg 0 [.bool b2,.string m2,.bool false,.string k2,.bool b3,.string m3,.bool false,.string k3] (fun j=>by simp)).out (fun V _=>exact_any V) (fun V hb=>min_z h1 h2 h11 (z1) z2 V (hE.next hb)) (fun V hb=>max_z h1 h2 h21 (z1) z2 V (hE.next hb)) (fun V hb=>min_z h11 h3 h12 ((z1).mn z2) z3 V (hE.next hb)) (fun V hb=>max_z h21 h3 h22 ((z1).mx z2) z3 V (hE.next hb))
theorem hull3_f {q1 q2 q3 q4:Rat} {b1 b2 b3 b4 b13 b23:Bool} {m1 k1 m2 k2 m3 k3 m4 k4 m13 k13 m23 k23:ByteArray} (h1:Rq q1 b1 m1 k1) (h2:Rq q2 b2 m2 k2) (h3:Rq q3 b3 m3 k3) (h4:Rq q4 b4 m4 k4) (z1:Sz 10000 q1) (z2:Sz 10000 q2) (z3:Sz 10000 q3) (z4:Sz 10000 q4) (h13:Rq (mn (mn (mn q1 q2) q3) q4) b13 m13 k13) (h23:Rq (mx (mx (mx q1 q2) q3) q4) b23 m23 k23) (w:World) (hE:Env w) {T:TypeId} (g:Nat) (hg:w.heap[g]?=some (.cells #[.bool b2,.string m2,.bool false,.string k2,.bool b3,.string m3,.bool false,.string k3,.bool b4,.string m4,.bool false,.string k4] T (0,0))):Calls Tryz.prog 85 #[.agg #[.bool b1,.string m1,.bool false,.string k1],.slice (some ⟨g,0,none⟩) 3 3] w (RetB w (.agg #[.bool b13,.string m13,.bool false,.string k13,.bool b23,.string m23,.bool false,.string k23])):=by
 obtain ⟨b11,m11,k11,h11⟩:=Rq.some_ ((mn q1 q2))
 obtain ⟨b12,m12,k12,h12⟩:=Rq.some_ ((mn (mn q1 q2) q3))
 obtain ⟨b21,m21,k21,h21⟩:=Rq.some_ ((mx q1 q2))
 obtain ⟨b22,m22,k22,h22⟩:=Rq.some_ ((mx (mx q1 q2) q3))
 exact hull_w3 w (old_of hg 0 [.bool b2,.string m2,.bool false,.string k2,.bool b3,.string m3,.bool false,.string k3,.bool b4,.string m4,.bool false,.string k4] (fun j=>by simp)).out (fun V _=>exact_any V) (fun V hb=>min_z h1 h2 h11 (z1) z2 V (hE.next hb)) (fun V hb=>max_z h1 h2 h21 (z1) z2 V (hE.next hb)) (fun V hb=>min_z h11 h3 h12 ((z1).mn z2) z3 V (hE.next hb)) (fun V hb=>max_z h21 h3 h22 ((z1).mx z2) z3 V (hE.next hb)) (fun V hb=>min_z h12 h4 h13 (((z1).mn z2).mn z3) z4 V (hE.next hb)) (fun V hb=>max_z h22 h4 h23 (((z1).mx z2).mx z3) z4 V (hE.next hb))
theorem hull3o_f {q1 q2 q3 q4:Rat} {b1 b2 b3 b4 b13 b23:Bool} {m1 k1 m2 k2 m3 k3 m4 k4 m13 k13 m23 k23:ByteArray} (h1:Rq q1 b1 m1 k1) (h2:Rq q2 b2 m2 k2) (h3:Rq q3 b3 m3 k3) (h4:Rq q4 b4 m4 k4) (z1:Sz 10000 q1) (z2:Sz 10000 q2) (z3:Sz 10000 q3) (z4:Sz 10000 q4) (h13:Rq (mn (mn (mn q1 q2) q3) q4) b13 m13 k13) (h23:Rq (mx (mx (mx q1 q2) q3) q4) b23 m23 k23) (w:World) (hE:Env w) {T:TypeId} (g:Nat) (hg:w.heap[g]?=some (.cells #[.bool b1,.string m1,.bool false,.string k1,.bool b2,.string m2,.bool false,.string k2,.bool b3,.string m3,.bool false,.string k3,.bool b4,.string m4,.bool false,.string k4] T (0,0))):Calls Tryz.prog 85 #[.agg #[.bool b1,.string m1,.bool false,.string k1],.slice (some ⟨g,4,none⟩) 3 3] w (RetB w (.agg #[.bool b13,.string m13,.bool false,.string k13,.bool b23,.string m23,.bool false,.string k23])):=by
 obtain ⟨b11,m11,k11,h11⟩:=Rq.some_ ((mn q1 q2))
 obtain ⟨b12,m12,k12,h12⟩:=Rq.some_ ((mn (mn q1 q2) q3))
 obtain ⟨b21,m21,k21,h21⟩:=Rq.some_ ((mx q1 q2))
 obtain ⟨b22,m22,k22,h22⟩:=Rq.some_ ((mx (mx q1 q2) q3))
 exact hull_w3o w (old_of hg 4 [.bool b2,.string m2,.bool false,.string k2,.bool b3,.string m3,.bool false,.string k3,.bool b4,.string m4,.bool false,.string k4] (fun j=>by rw [Nat.add_comm];simp)).out (fun V _=>exact_any V) (fun V hb=>min_z h1 h2 h11 (z1) z2 V (hE.next hb)) (fun V hb=>max_z h1 h2 h21 (z1) z2 V (hE.next hb)) (fun V hb=>min_z h11 h3 h12 ((z1).mn z2) z3 V (hE.next hb)) (fun V hb=>max_z h21 h3 h22 ((z1).mx z2) z3 V (hE.next hb)) (fun V hb=>min_z h12 h4 h13 (((z1).mn z2).mn z3) z4 V (hE.next hb)) (fun V hb=>max_z h22 h4 h23 (((z1).mx z2).mx z3) z4 V (hE.next hb))

def mlo (p q r s:Rat):Rat:=mn (mn (mn (p*r) (p*s)) (q*r)) (q*s)
def mhi (p q r s:Rat):Rat:=mx (mx (mx (p*r) (p*s)) (q*r)) (q*s)
theorem eneg_f {p q:Rat} {b1 b2 b3 b4:Bool} {m1 k1 m2 k2 m3 k3 m4 k4:ByteArray} (h1:Rq p b1 m1 k1) (h2:Rq q b2 m2 k2) (h3:Rq (-q) b3 m3 k3) (h4:Rq (-p) b4 m4 k4) (w:World):Calls Tryz.prog 36 #[.agg #[.bool b1,.string m1,.bool false,.string k1,.bool b2,.string m2,.bool false,.string k2]] w (RetB w (.agg #[.bool b3,.string m3,.bool false,.string k3,.bool b4,.string m4,.bool false,.string k4])) :=
 eneg_w w (fun V _=>ratNeg_f h2 h3 V) (fun V _=>ratNeg_f h1 h4 V)
theorem eadd_f {p q r s:Rat} {b1 b2 b3 b4 b5 b6:Bool} {m1 k1 m2 k2 m3 k3 m4 k4 m5 k5 m6 k6:ByteArray} (h1:Rq p b1 m1 k1) (h2:Rq q b2 m2 k2) (h3:Rq r b3 m3 k3) (h4:Rq s b4 m4 k4) (h5:Rq (p+r) b5 m5 k5) (h6:Rq (q+s) b6 m6 k6) (z1:Sz 10000 p) (z2:Sz 10000 q) (z3:Sz 10000 r) (z4:Sz 10000 s) (w:World) (hE:Env w):Calls Tryz.prog 27 #[.agg #[.bool b1,.string m1,.bool false,.string k1,.bool b2,.string m2,.bool false,.string k2],.agg #[.bool b3,.string m3,.bool false,.string k3,.bool b4,.string m4,.bool false,.string k4]] w (RetB w (.agg #[.bool b5,.string m5,.bool false,.string k5,.bool b6,.string m6,.bool false,.string k6])) :=
 eadd_w w (fun V hb=>add_z h1 h3 h5 z1 z3 V (hE.next hb)) (fun V hb=>add_z h2 h4 h6 z2 z4 V (hE.next hb))
theorem esub_f {p q r s:Rat} {b1 b2 b3 b4 b5 b6:Bool} {m1 k1 m2 k2 m3 k3 m4 k4 m5 k5 m6 k6:ByteArray} (h1:Rq p b1 m1 k1) (h2:Rq q b2 m2 k2) (h3:Rq r b3 m3 k3) (h4:Rq s b4 m4 k4) (h5:Rq (p-s) b5 m5 k5) (h6:Rq (q-r) b6 m6 k6) (z1:Sz 10000 p) (z2:Sz 10000 q) (z3:Sz 10000 r) (z4:Sz 10000 s) (w:World) (hE:Env w):Calls Tryz.prog 30 #[.agg #[.bool b1,.string m1,.bool false,.string k1,.bool b2,.string m2,.bool false,.string k2],.agg #[.bool b3,.string m3,.bool false,.string k3,.bool b4,.string m4,.bool false,.string k4]] w (RetB w (.agg #[.bool b5,.string m5,.bool false,.string k5,.bool b6,.string m6,.bool false,.string k6])):=by
 obtain ⟨b7,m7,k7,h7⟩:=Rq.some_ (-s)
 obtain ⟨b8,m8,k8,h8⟩:=Rq.some_ (-r)
 exact esub_w w (fun V _=>eneg_f h3 h4 h7 h8 V) (fun V hb=>eadd_f h1 h2 h7 h8 (by rw [←Rat.sub_eq_add_neg];exact h5) (by rw [←Rat.sub_eq_add_neg];exact h6) z1 z2 z4.minus z3.minus V (hE.next hb))
theorem emul_f {p q r s:Rat} {b1 b2 b3 b4 b9 b10:Bool} {m1 k1 m2 k2 m3 k3 m4 k4 m9 k9 m10 k10:ByteArray} (h1:Rq p b1 m1 k1) (h2:Rq q b2 m2 k2) (h3:Rq r b3 m3 k3) (h4:Rq s b4 m4 k4) (h9:Rq (mlo p q r s) b9 m9 k9) (h10:Rq (mhi p q r s) b10 m10 k10) (z1:Sz 5000 p) (z2:Sz 5000 q) (z3:Sz 5000 r) (z4:Sz 5000 s) (w:World) (hE:Env w):Calls Tryz.prog 32 #[.agg #[.bool b1,.string m1,.bool false,.string k1,.bool b2,.string m2,.bool false,.string k2],.agg #[.bool b3,.string m3,.bool false,.string k3,.bool b4,.string m4,.bool false,.string k4]] w (RetB w (.agg #[.bool b9,.string m9,.bool false,.string k9,.bool b10,.string m10,.bool false,.string k10])):=by
 obtain ⟨b5,m5,k5,h5⟩:=Rq.some_ (p*r)
 obtain ⟨b6,m6,k6,h6⟩:=Rq.some_ (p*s)
 obtain ⟨b7,m7,k7,h7⟩:=Rq.some_ (q*r)
 obtain ⟨b8,m8,k8,h8⟩:=Rq.some_ (q*s)
 exact emul_w w (fun V hb=>hull3o_f h5 h6 h7 h8 ((z1.mul z3).up (by omega)) ((z1.mul z4).up (by omega)) ((z2.mul z3).up (by omega)) ((z2.mul z4).up (by omega)) h9 h10 V (hE.next hb)) (fun V hb=>mul_z h1 h3 h5 (z1.up (by omega)) (z3.up (by omega)) V (hE.next hb)) (fun V hb=>mul_z h1 h4 h6 (z1.up (by omega)) (z4.up (by omega)) V (hE.next hb)) (fun V hb=>mul_z h2 h3 h7 (z2.up (by omega)) (z3.up (by omega)) V (hE.next hb)) (fun V hb=>mul_z h2 h4 h8 (z2.up (by omega)) (z4.up (by omega)) V (hE.next hb))
theorem esca_f {p q x:Rat} {b1 b2 b3 b6 b7:Bool} {m1 k1 m2 k2 m3 k3 m6 k6 m7 k7:ByteArray} (h1:Rq p b1 m1 k1) (h2:Rq q b2 m2 k2) (h3:Rq x b3 m3 k3) (h6:Rq (mn (p*x) (q*x)) b6 m6 k6) (h7:Rq (mx (p*x) (q*x)) b7 m7 k7) (z1:Sz 5000 p) (z2:Sz 5000 q) (z3:Sz 5000 x) (w:World) (hE:Env w):Calls Tryz.prog 37 #[.agg #[.bool b1,.string m1,.bool false,.string k1,.bool b2,.string m2,.bool false,.string k2],.agg #[.bool b3,.string m3,.bool false,.string k3]] w (RetB w (.agg #[.bool b6,.string m6,.bool false,.string k6,.bool b7,.string m7,.bool false,.string k7])):=by
 obtain ⟨b4,m4,k4,h4⟩:=Rq.some_ (p*x)
 obtain ⟨b5,m5,k5,h5⟩:=Rq.some_ (q*x)
 exact esca_w w (fun V hb=>hull1_f h4 h5 ((z1.mul z3).up (by omega)) ((z2.mul z3).up (by omega)) h6 h7 V (hE.next hb)) (fun V hb=>mul_z h1 h3 h4 (z1.up (by omega)) (z3.up (by omega)) V (hE.next hb)) (fun V hb=>mul_z h2 h3 h5 (z2.up (by omega)) (z3.up (by omega)) V (hE.next hb))
def slo (p q:Rat):Rat:=if p≤0∧0≤q then mn (mn (p*p) (q*q)) 0 else mn (p*p) (q*q)
def shi (p q:Rat):Rat:=if p≤0∧0≤q then mx (mx (p*p) (q*q)) 0 else mx (p*p) (q*q)
theorem esqu_f {p q:Rat} {b1 b2 b5 b6:Bool} {m1 k1 m2 k2 m5 k5 m6 k6:ByteArray} (h1:Rq p b1 m1 k1) (h2:Rq q b2 m2 k2) (h5:Rq (slo p q) b5 m5 k5) (h6:Rq (shi p q) b6 m6 k6) (z1:Sz 5000 p) (z2:Sz 5000 q) (w:World) (hE:Env w):Calls Tryz.prog 34 #[.agg #[.bool b1,.string m1,.bool false,.string k1,.bool b2,.string m2,.bool false,.string k2]] w (RetB w (.agg #[.bool b5,.string m5,.bool false,.string k5,.bool b6,.string m6,.bool false,.string k6])):=by
 obtain ⟨b3,m3,k3,h3⟩:=Rq.some_ (p*p)
 obtain ⟨b4,m4,k4,h4⟩:=Rq.some_ (q*q)
 have HC:=fun V (hb:Below w.heap.size w V)=>econ_f h1 h2 Rq.zero (z1.up (by omega)) (z2.up (by omega)) (Sz.zero 9999) V (hE.next hb)
 unfold slo at h5
 unfold shi at h6
 by_cases h:p≤0∧0≤q
 · rw [if_pos h] at h5 h6
   rw [decide_eq_true h] at HC
   exact esqu_yes w (fun V hb=>hull2_f h3 h4 Rq.zero ((z1.mul z1).up (by omega)) ((z2.mul z2).up (by omega)) (Sz.zero 9999) h5 h6 V (hE.next hb)) (fun V hb=>mul_z h1 h1 h3 (z1.up (by omega)) (z1.up (by omega)) V (hE.next hb)) (fun V hb=>mul_z h2 h2 h4 (z2.up (by omega)) (z2.up (by omega)) V (hE.next hb)) HC
 · rw [if_neg h] at h5 h6
   rw [decide_eq_false h] at HC
   exact esqu_no w (fun V hb=>hull1_f h3 h4 ((z1.mul z1).up (by omega)) ((z2.mul z2).up (by omega)) h5 h6 V (hE.next hb)) (fun V hb=>mul_z h1 h1 h3 (z1.up (by omega)) (z1.up (by omega)) V (hE.next hb)) (fun V hb=>mul_z h2 h2 h4 (z2.up (by omega)) (z2.up (by omega)) V (hE.next hb)) HC
theorem ehul_f {p q r s:Rat} {b1 b2 b3 b4 b5 b6:Bool} {m1 k1 m2 k2 m3 k3 m4 k4 m5 k5 m6 k6:ByteArray} (h1:Rq p b1 m1 k1) (h2:Rq q b2 m2 k2) (h3:Rq r b3 m3 k3) (h4:Rq s b4 m4 k4) (h5:Rq (mn (mn (mn p q) r) s) b5 m5 k5) (h6:Rq (mx (mx (mx p q) r) s) b6 m6 k6) (z1:Sz 10000 p) (z2:Sz 10000 q) (z3:Sz 10000 r) (z4:Sz 10000 s) (w:World) (hE:Env w):Calls Tryz.prog 54 #[.agg #[.bool b1,.string m1,.bool false,.string k1,.bool b2,.string m2,.bool false,.string k2],.agg #[.bool b3,.string m3,.bool false,.string k3,.bool b4,.string m4,.bool false,.string k4]] w (RetB w (.agg #[.bool b5,.string m5,.bool false,.string k5,.bool b6,.string m6,.bool false,.string k6])) :=
 ehul_w w (fun V hb=>hull3_f h1 h2 h3 h4 z1 z2 z3 z4 h5 h6 V (hE.next hb))
theorem ediv_0 {r s:Rat} {b1 b2 b3 b4:Bool} {m1 k1 m2 k2 m3 k3 m4 k4:ByteArray} (h3:Rq r b3 m3 k3) (h4:Rq s b4 m4 k4) (h:r≤0∧0≤s) (z3:Sz 5000 r) (z4:Sz 5000 s) (w:World) (hE:Env w):Calls Tryz.prog 38 #[.agg #[.bool b1,.string m1,.bool false,.string k1,.bool b2,.string m2,.bool false,.string k2],.agg #[.bool b3,.string m3,.bool false,.string k3,.bool b4,.string m4,.bool false,.string k4]] w (RetB w (.tuple #[.agg #[.bool false,.string ⟨#[]⟩,.bool false,.string ⟨#[]⟩,.bool false,.string ⟨#[]⟩,.bool false,.string ⟨#[]⟩],.int .i64 6])) :=
 ediv_no w (fun V hb=>by have H:=econ_f h3 h4 Rq.zero (z3.up (by omega)) (z4.up (by omega)) (Sz.zero 9999) V (hE.next hb);rw [decide_eq_true h] at H;exact H)
theorem ediv_f {p q r s:Rat} {b1 b2 b3 b4 b7 b8:Bool} {m1 k1 m2 k2 m3 k3 m4 k4 m7 k7 m8 k8:ByteArray} (h1:Rq p b1 m1 k1) (h2:Rq q b2 m2 k2) (h3:Rq r b3 m3 k3) (h4:Rq s b4 m4 k4) (h7:Rq (mlo p q (1 / s) (1 / r)) b7 m7 k7) (h8:Rq (mhi p q (1 / s) (1 / r)) b8 m8 k8) (h:¬(r≤0∧0≤s)) (hrs:r≤s) (z1:Sz 2000 p) (z2:Sz 2000 q) (z3:Sz 2000 r) (z4:Sz 2000 s) (w:World) (hE:Env w):Calls Tryz.prog 38 #[.agg #[.bool b1,.string m1,.bool false,.string k1,.bool b2,.string m2,.bool false,.string k2],.agg #[.bool b3,.string m3,.bool false,.string k3,.bool b4,.string m4,.bool false,.string k4]] w (RetB w (.tuple #[.agg #[.bool b7,.string m7,.bool false,.string k7,.bool b8,.string m8,.bool false,.string k8],.int .i64 0])):=by
 obtain ⟨b5,m5,k5,h5⟩:=Rq.some_ (1 / s)
 obtain ⟨b6,m6,k6,h6⟩:=Rq.some_ (1 / r)
 have z0:Sz 1 1:=⟨by decide,by decide⟩
 have s0:s.num≠0:=fun e=>h (by have e:=Rat.num_eq_zero.1 e;subst e;exact ⟨hrs,Rat.le_refl⟩)
 have r0:r.num≠0:=fun e=>h (by have e:=Rat.num_eq_zero.1 e;subst e;exact ⟨Rat.le_refl,hrs⟩)
 exact ediv_yes w (fun V hb=>by have H:=econ_f h3 h4 Rq.zero (z3.up (by omega)) (z4.up (by omega)) (Sz.zero 9999) V (hE.next hb);rw [decide_eq_false h] at H;exact H) (fun V _=>rFromInt_f (x:=1) qo.num (by omega) (by omega) V) (fun V hb=>div_z qo h4 h5 s0 (z0.up (by omega)) (z4.up (by omega)) V (hE.next hb)) (fun V hb=>div_z qo h3 h6 r0 (z0.up (by omega)) (z3.up (by omega)) V (hE.next hb)) (fun V hb=>emul_f h1 h2 h5 h6 h7 h8 (z1.up (by omega)) (z2.up (by omega)) (z4.inv.up (by omega)) (z3.inv.up (by omega)) V (hE.next hb))
end Go.Proofs.YtdbhahiieokplaaGreatDoor


namespace Go.Proofs.YtdbhahiieokplaaGreatDoor
open Go.RowKit
attribute [local go_sem ↓] Go.wp_at_zero Go.wp_at_succ

theorem wrap_small {x:Int} (h1:-9223372036854775808≤x) (h2:x≤9223372036854775807):IntKind.i64.wrap x=x:=by
 rw [IntKind.wrap_i64]
 omega

end Go.Proofs.YtdbhahiieokplaaGreatDoor


namespace Go.Proofs.YtdbhahiieokplaaGreatDoor
open Go.RowKit
attribute [local go_sem ↓] Go.wp_at_zero Go.wp_at_succ

end Go.Proofs.YtdbhahiieokplaaGreatDoor


namespace Go.Proofs.YtdbhahiieokplaaGreatDoor
open Go.RowKit
attribute [local go_sem ↓] Go.wp_at_zero Go.wp_at_succ

end Go.Proofs.YtdbhahiieokplaaGreatDoor
