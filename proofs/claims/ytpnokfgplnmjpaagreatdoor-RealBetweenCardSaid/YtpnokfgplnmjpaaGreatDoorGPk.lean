/- Ends of walks that come up more than once: scripts that stand once, as premises with a default. -/
import Derived.Test.YtpnokfgplnmjpaaGreatDoorGPo
import Derived.WalkKit
import Derived.Deep.QuietTactic
import Derived.Deep.RegionHeld3
import Derived.Deep.OwnRows
import Derived.Lib.Hide
import Derived.Deep.Cut
import Derived.Deep.CutBlock
import Derived.Deep.DeepCutAuto
import Derived.Deep.LoopGhost
import Derived.Deep.RegionLaw
import Derived.Deep.RegionWith
import Derived.IntWalk
import Derived.KernelRfl
import Derived.LoopTactic
import Derived.OwnWalk
import Derived.Tactics2
set_option linter.unusedVariables false
namespace Go.Proofs.YtpnokfgplnmjpaaGreatDoor
theorem k0 {p:Prop} (h:p:=by
 obtain ⟨g10,rfl,hR⟩:=hcut
 have RR:=Lib.hid hR
 obtain ⟨h0,h1,h2,h3,h4⟩:=blk5 RR.out.k.k2
 obtain ⟨l0,l1,l2,l3,l4⟩:=blk5 RR.out.k.k1
 obtain ⟨n0,n1,_,_⟩:=blk_cells RR.out.b10.k
 obtain ⟨o0,o1,_,_⟩:=blk_cells RR.out.b7.k
 clear hR KV V6 V7
 go_wp2_with fail
 refine (HIH.out _ (HE.out _ RR.out.k.bel)).mono ?_
 rintro e w9 ⟨n,m,rfl,hsm,hb9⟩
 have HFIN:=Lib.hid (HTURN.out n m hsm)
 have hmin:=hsm.min q (p-a / b*q) HIN2.out
 have sn:(mag n).size≤5000:=Nat.le_trans (nd_mono hmin.1) HSZ.out.2.2.2.2.2
 have sm:(mag m).size≤5000:=Nat.le_trans (nd_mono hmin.2) (Nat.le_trans (nd_mono (Nat.sub_le _ _)) HSZ.out.2.2.2.2.1)
 have sN:(mag (a / b*n)).size≤10000:=Nat.le_trans (nd_mul _ _) (by unfold nd;omega)
 have HM2:=Lib.hid (fun V=>mul_f (z:=((a / b*n:Nat):Int)) (enc_mag (a / b)) (enc_mag n) (by omega) (by omega) (enc_mag _) (by rw [Int.natCast_mul]) V)
 have HA2:=Lib.hid (fun V=>add_f (z:=((a / b*n+m:Nat):Int)) (enc_mag (a / b*n)) (enc_mag m) (by omega) (by omega) (enc_mag _) (by rw [Int.natCast_add]) V)
 have K9:=Lib.hid (RR.out.k.next hb9)
 have B6:=Lib.hid (RR.out.b6.next hb9)
 obtain ⟨t0,t1,t2,t3⟩:=blk_cells K9.out.k3
 obtain ⟨t4,t5,t6,t7⟩:=blk_cells K9.out.k4
 have KW:=Lib.hid ((K9.out.set4 (.bool false) (.string (mag n))).set3 (.bool false) (.string (mag m)))
 have BW:=Lib.hid ((B6.out.set4 (.bool false) (.string (mag n))).set3 (.bool false) (.string (mag m)))
 clear h0 h1 h2 h3 h4 l0 l1 l2 l3 l4 n0 n1 o0 o1 hsm hmin hb9 RR
 generalize mag (a / b*n)=mfn at *
 generalize hres:mag (a / b*n+m)=mres at *
 have HRES:=Lib.hid hres
 generalize hmn:mag n=mn at *
 have HMN:=Lib.hid hmn
 generalize mag m=mm at *
 generalize mag (a / b)=mf at *
 clear hres hmn
 go_wp2_with fail
 clear t0 t1 t2 t3 t4 t5 t6 t7
 obtain ⟨W,hW⟩:∃ W,W=((((w9.setCell ⟨w.heap.size+1+1+1,0,none⟩ (.bool false)).setCell ⟨w.heap.size+1+1+1,1,none⟩ (.string mn)).setCell ⟨w.heap.size+1+1,0,none⟩ (.bool false)).setCell ⟨w.heap.size+1+1,1,none⟩ (.string mm)):=⟨_,rfl⟩
 rw [←hW]
 have KW':=Lib.hid ((show Kd w _ _ _ _ W by rw [hW];exact KW.out).next (Below.refl _ _).drew)
 have BW':=Lib.hid ((show Bs w _ _ W by rw [hW];exact BW.out).next (Below.refl _ _).drew)
 obtain ⟨x0,x1,_,_⟩:=blk_cells (show Kd w _ _ _ _ W by rw [hW];exact KW.out).k3
 clear KW BW hW
 have hHeld:W.drew.cell? ⟨w1.heap.size,0,none⟩=some (.bool false)∧W.drew.cell? ⟨w1.heap.size,1,none⟩=some (.string mf)∧W.drew.cell? ⟨w.heap.size+1+1+1,0,none⟩=some (.bool false)∧W.drew.cell? ⟨w.heap.size+1+1+1,1,none⟩=some (.string mn):=⟨(blk_cells BW'.out.k).1,(blk_cells BW'.out.k).2.1,(blk_cells KW'.out.k4).1,(blk_cells KW'.out.k4).2.1⟩
 have HH:=Lib.hid hHeld
 clear hHeld
 refine wp_region_late (S:=fun w'=>w'.cell? ⟨w1.heap.size,0,none⟩=some (.bool false)∧w'.cell? ⟨w1.heap.size,1,none⟩=some (.string mf)∧w'.cell? ⟨w.heap.size+1+1+1,0,none⟩=some (.bool false)∧w'.cell? ⟨w.heap.size+1+1+1,1,none⟩=some (.string mn)) (L:=[7]) (by kernel_rfl) ?_
 have hHeld:=HH.out
 refine wpLate_take (i:=0) (oi:=⟨some 59,_,_,_,_,_⟩) (v:=?_) rfl (by kernel_rfl) (by kernel_rfl) (by kernel_rfl) (by kernel_rfl) (by kernel_rfl) (fun _ _ _ h=>h) (Or.inl ⟨by rfl,?_⟩) hHeld ?_
 rotate_left
 · intro w hSw;(try dsimp only at hSw);(first | (go_simp;done) | (go_simp;with_reducible rfl))
 try simp only [Act.put,List.setIfInBounds_toArray,List.set_cons_zero,List.set_cons_succ]
 refine wpLate_take (i:=1) (oi:=⟨some 60,_,_,_,_,_⟩) (v:=?_) rfl (by kernel_rfl) (by kernel_rfl) (by kernel_rfl) (by kernel_rfl) (by kernel_rfl) (fun _ _ _ h=>h) (Or.inl ⟨by rfl,?_⟩) hHeld ?_
 rotate_left
 · intro w hSw;(try dsimp only at hSw);(first | (go_simp;done) | (go_simp;with_reducible rfl))
 try simp only [Act.put,List.setIfInBounds_toArray,List.set_cons_zero,List.set_cons_succ]
 refine wpLate_take (i:=5) (oi:=⟨some 64,_,_,_,_,_⟩) (v:=?_) rfl (by kernel_rfl) (by kernel_rfl) (by kernel_rfl) (by kernel_rfl) (by kernel_rfl) (fun _ _ _ h=>h) (Or.inl ⟨by rfl,?_⟩) hHeld ?_
 rotate_left
 · intro w hSw;(try dsimp only at hSw);(first | (go_simp;done) | (go_simp;with_reducible rfl))
 try simp only [Act.put,List.setIfInBounds_toArray,List.set_cons_zero,List.set_cons_succ]
 clear hHeld
 refine wpLate_two (i:=2) (j:=3) (o:=⟨some 61,_,_,_,_,_⟩) (o':=⟨some 62,_,_,_,_,_⟩) (by kernel_rfl) rfl rfl (fun K hK=>?_) (fun K hK=>?_)
 · go_simp
   (go_at_call 95;refine (HM2.out _).mono ?_;rintro e w10 ⟨rfl,hbw10⟩;have KW':=Lib.hid (KW'.out.next hbw10);have BW':=Lib.hid (BW'.out.next hbw10);clear hbw10)
   try go_wp2_with fail
   refine hK.out _ _ (Or.inr (fun _=>⟨(blk_cells BW'.out.k).1,(blk_cells BW'.out.k).2.1,(blk_cells KW'.out.k4).1,(blk_cells KW'.out.k4).2.1⟩)) ?_
   clear hK K
   try simp only [Act.put,List.setIfInBounds_toArray,List.set_cons_zero,List.set_cons_succ]
   obtain ⟨x0,x1,_,_⟩:=blk_cells KW'.out.k3
   refine wpLate_one (i:=3) (o:=⟨some 62,_,_,_,_,_⟩) (by kernel_rfl) rfl (fun K hK=>?_)
   go_simp
   refine hK.out _ _ (Or.inr id) ?_
   clear hK K
   try simp only [Act.put,List.setIfInBounds_toArray,List.set_cons_zero,List.set_cons_succ]
   clear x0 x1
   refine wpLate_one (i:=4) (o:=⟨some 63,_,_,_,_,_⟩) (by kernel_rfl) rfl (fun K hK=>?_)
   go_simp
   (go_at_call 101;refine (HA2.out _).mono ?_;rintro e w11 ⟨rfl,hbw11⟩;have KW':=Lib.hid (KW'.out.next hbw11);have BW':=Lib.hid (BW'.out.next hbw11);clear hbw11)
   try go_wp2_with fail
   refine hK.out _ _ (Or.inr (fun _=>⟨(blk_cells BW'.out.k).1,(blk_cells BW'.out.k).2.1,(blk_cells KW'.out.k4).1,(blk_cells KW'.out.k4).2.1⟩)) ?_
   clear hK K
   try simp only [Act.put,List.setIfInBounds_toArray,List.set_cons_zero,List.set_cons_succ]
   have KX:=Lib.hid (KW'.out.set3 (.bool false) (.string mres))
   have BX:=Lib.hid (BW'.out.set3 (.bool false) (.string mres))
   obtain ⟨z0,z1,z2,z3⟩:=blk_cells KW'.out.k3
   obtain ⟨y0,y1,y2,y3⟩:=blk_cells KW'.out.k4
   have KY:=Lib.hid (KX.out.set4 (.bool false) (.string mn))
   obtain ⟨r0,r1,_,_⟩:=blk_cells KY.out.k3
   obtain ⟨r2,r3,_,_⟩:=blk_cells KY.out.k4
   refine wpLate_one (i:=6) (o:=⟨none,_,_,_,_,_⟩) (by kernel_rfl) rfl (fun K hK=>?_)
   go_simp
   refine hK.out _ _ (Or.inr (fun _=>⟨(blk_cells BX.out.k).1,(blk_cells BX.out.k).2.1,(blk_cells KX.out.k4).1,(blk_cells KX.out.k4).2.1⟩)) ?_
   clear hK K
   try simp only [Act.put,List.setIfInBounds_toArray,List.set_cons_zero,List.set_cons_succ]
   refine wpLate_one (i:=7) (o:=⟨none,_,_,_,_,_⟩) (by kernel_rfl) rfl (fun K hK=>?_)
   go_simp
   refine hK.out _ _ (Or.inl (by rfl)) ?_
   clear hK K
   try simp only [Act.put,List.setIfInBounds_toArray,List.set_cons_zero,List.set_cons_succ]
   refine wpLate_done (by kernel_rfl) ?_ _
   clear z0 z1 z2 z3 y0 y1 y2 y3
   go_wp2
   exact bodyPost_ret (v:=.tuple #[.agg #[.bool false,.string mres],.agg #[.bool false,.string mn]]) (by simp [results,Tryz.results159,go_sem,r0,r1,r2,r3]) rfl ⟨_,n,by rw [HRES.out,HMN.out],HFIN.out,KY.out.bel⟩
 · go_simp
   refine hK.out _ _ (Or.inr id) ?_
   clear hK K
   try simp only [Act.put,List.setIfInBounds_toArray,List.set_cons_zero,List.set_cons_succ]
   clear x0 x1
   refine wpLate_one (i:=2) (o:=⟨some 61,_,_,_,_,_⟩) (by kernel_rfl) rfl (fun K hK=>?_)
   go_simp
   (go_at_call 95;refine (HM2.out _).mono ?_;rintro e w10 ⟨rfl,hbw10⟩;have KW':=Lib.hid (KW'.out.next hbw10);have BW':=Lib.hid (BW'.out.next hbw10);clear hbw10)
   try go_wp2_with fail
   refine hK.out _ _ (Or.inr (fun _=>⟨(blk_cells BW'.out.k).1,(blk_cells BW'.out.k).2.1,(blk_cells KW'.out.k4).1,(blk_cells KW'.out.k4).2.1⟩)) ?_
   clear hK K
   try simp only [Act.put,List.setIfInBounds_toArray,List.set_cons_zero,List.set_cons_succ]
   refine wpLate_one (i:=4) (o:=⟨some 63,_,_,_,_,_⟩) (by kernel_rfl) rfl (fun K hK=>?_)
   go_simp
   (go_at_call 101;refine (HA2.out _).mono ?_;rintro e w11 ⟨rfl,hbw11⟩;have KW':=Lib.hid (KW'.out.next hbw11);have BW':=Lib.hid (BW'.out.next hbw11);clear hbw11)
   try go_wp2_with fail
   refine hK.out _ _ (Or.inr (fun _=>⟨(blk_cells BW'.out.k).1,(blk_cells BW'.out.k).2.1,(blk_cells KW'.out.k4).1,(blk_cells KW'.out.k4).2.1⟩)) ?_
   clear hK K
   try simp only [Act.put,List.setIfInBounds_toArray,List.set_cons_zero,List.set_cons_succ]
   have KX:=Lib.hid (KW'.out.set3 (.bool false) (.string mres))
   have BX:=Lib.hid (BW'.out.set3 (.bool false) (.string mres))
   obtain ⟨z0,z1,z2,z3⟩:=blk_cells KW'.out.k3
   obtain ⟨y0,y1,y2,y3⟩:=blk_cells KW'.out.k4
   have KY:=Lib.hid (KX.out.set4 (.bool false) (.string mn))
   obtain ⟨r0,r1,_,_⟩:=blk_cells KY.out.k3
   obtain ⟨r2,r3,_,_⟩:=blk_cells KY.out.k4
   refine wpLate_one (i:=6) (o:=⟨none,_,_,_,_,_⟩) (by kernel_rfl) rfl (fun K hK=>?_)
   go_simp
   refine hK.out _ _ (Or.inr (fun _=>⟨(blk_cells BX.out.k).1,(blk_cells BX.out.k).2.1,(blk_cells KX.out.k4).1,(blk_cells KX.out.k4).2.1⟩)) ?_
   clear hK K
   try simp only [Act.put,List.setIfInBounds_toArray,List.set_cons_zero,List.set_cons_succ]
   refine wpLate_one (i:=7) (o:=⟨none,_,_,_,_,_⟩) (by kernel_rfl) rfl (fun K hK=>?_)
   go_simp
   refine hK.out _ _ (Or.inl (by rfl)) ?_
   clear hK K
   try simp only [Act.put,List.setIfInBounds_toArray,List.set_cons_zero,List.set_cons_succ]
   refine wpLate_done (by kernel_rfl) ?_ _
   clear z0 z1 z2 z3 y0 y1 y2 y3
   go_wp2
   exact bodyPost_ret (v:=.tuple #[.agg #[.bool false,.string mres],.agg #[.bool false,.string mn]]) (by simp [results,Tryz.results159,go_sem,r0,r1,r2,r3]) rfl ⟨_,n,by rw [HRES.out,HMN.out],HFIN.out,KY.out.bel⟩):p:=h
theorem k1 {p:Prop} (h:p:=by
 have X:=Lib.hid X.out.drew
 obtain ⟨V0,hV⟩:=wexi X.out
 rw [←hV] at X ⊢
 clear hV
 refine tk (i:=0) (oi:=⟨some 14,_,_,_,_,_⟩) (v:=_) rfl (by kernel_rfl) (fun _ _ _ h=>h) (⟨X.out.c3 (i:=1) rfl,X.out.c3 (i:=2) rfl⟩) (Or.inl ⟨by rfl,by intro w hSw;(try dsimp only at hSw);(first | (go_simp;done) | (go_simp;with_reducible rfl))⟩) ?_
 try simp only [Act.put,seti,set0,setS]
 refine tk (i:=1) (oi:=⟨some 15,_,_,_,_,_⟩) (v:=_) rfl (by kernel_rfl) (fun _ _ _ h=>h) (⟨X.out.c3 (i:=1) rfl,X.out.c3 (i:=2) rfl⟩) (Or.inl ⟨by rfl,by intro w hSw;(try dsimp only at hSw);(first | (go_simp;done) | (go_simp;with_reducible rfl))⟩) ?_
 try simp only [Act.put,seti,set0,setS]
 refine tk (i:=2) (oi:=⟨some 16,_,_,_,_,_⟩) (v:=_) rfl (by kernel_rfl) (fun _ _ _ h=>h) (⟨X.out.c3 (i:=1) rfl,X.out.c3 (i:=2) rfl⟩) (Or.inl ⟨by rfl,by intro w hSw;(try dsimp only at hSw);(first | (go_simp;done) | (go_simp;with_reducible rfl))⟩) ?_
 try simp only [Act.put,seti,set0,setS]
 refine tk (i:=3) (oi:=⟨some 17,_,_,_,_,_⟩) (v:=_) rfl (by kernel_rfl) (fun _ _ _ h=>h) (⟨X.out.c3 (i:=1) rfl,X.out.c3 (i:=2) rfl⟩) (Or.inl ⟨by rfl,by intro w hSw;(try dsimp only at hSw);(first | (go_simp;done) | (go_simp;with_reducible rfl))⟩) ?_
 try simp only [Act.put,seti,set0,setS]
 refine tk (i:=5) (oi:=⟨some 19,_,_,_,_,_⟩) (v:=_) rfl (by kernel_rfl) (fun _ _ _ h=>h) (⟨X.out.c3 (i:=1) rfl,X.out.c3 (i:=2) rfl⟩) (Or.inl ⟨by rfl,by intro w hSw;(try dsimp only at hSw);(first | (go_simp;done) | (go_simp;with_reducible rfl))⟩) ?_
 try simp only [Act.put,seti,set0,setS]
 refine tk (i:=6) (oi:=⟨some 20,_,_,_,_,_⟩) (v:=_) rfl (by kernel_rfl) (fun _ _ _ h=>h) (⟨X.out.c3 (i:=1) rfl,X.out.c3 (i:=2) rfl⟩) (Or.inl ⟨by rfl,by intro w hSw;(try dsimp only at hSw);(first | (go_simp;done) | (go_simp;with_reducible rfl))⟩) ?_
 try simp only [Act.put,seti,set0,setS]
 refine tk (i:=7) (oi:=⟨some 21,_,_,_,_,_⟩) (v:=_) rfl (by kernel_rfl) (fun _ _ _ h=>h) (⟨X.out.c3 (i:=1) rfl,X.out.c3 (i:=2) rfl⟩) (Or.inl ⟨by rfl,by intro w hSw;(try dsimp only at hSw);(first | (go_simp;done) | (go_simp;with_reducible rfl))⟩) ?_
 try simp only [Act.put,seti,set0,setS]
 refine tk (i:=8) (oi:=⟨some 22,_,_,_,_,_⟩) (v:=_) rfl (by kernel_rfl) (fun _ _ _ h=>h) (⟨X.out.c3 (i:=1) rfl,X.out.c3 (i:=2) rfl⟩) (Or.inl ⟨by rfl,by intro w hSw;(try dsimp only at hSw);(first | (go_simp;done) | (go_simp;with_reducible rfl))⟩) ?_
 try simp only [Act.put,seti,set0,setS]
 refine wpLate_one (i:=4) (o:=⟨some 18,_,_,_,_,_⟩) (by kernel_rfl) rfl (fun K hK=>?_)
 go_simp
 (go_at_call 122;refine (rtimes _ _ _ _ _ _ _ _ _ (by have h:=(X.out.rw (i:=0) rfl).ln;have h2:=HN0.out;omega) (by have h:=(X.out.rw (i:=3) rfl).ln;have h2:=HN3.out;omega) (X.out.rw (i:=0) rfl).dg (X.out.rw (i:=3) rfl).dg).mono ?_;rintro e u1 ⟨A1,n1,c1,rfl,ht9,hb9,hf9⟩;have X:=Lib.hid (X.out.row hb9 ht9 hf9);clear hb9 ht9 hf9)
 try go_wp2_with fail
 refine hK.out _ _ (Or.inr (fun _=>⟨X.out.c3 (i:=1) rfl,X.out.c3 (i:=2) rfl⟩)) ?_
 clear hK K
 try simp only [Act.put,seti,set0,setS]
 refine wpLate_one (i:=9) (o:=⟨some 23,_,_,_,_,_⟩) (by kernel_rfl) rfl (fun K hK=>?_)
 go_simp
 (go_at_call 122;refine (rtimes _ _ _ _ _ _ _ _ _ (by have h:=(X.out.rw (i:=2) rfl).ln;have h2:=HN2.out;omega) (by have h:=(X.out.rw (i:=1) rfl).ln;have h2:=HN1.out;omega) (X.out.rw (i:=2) rfl).dg (X.out.rw (i:=1) rfl).dg).mono ?_;rintro e u2 ⟨A2,n2,c2,rfl,ht9,hb9,hf9⟩;have X:=Lib.hid (X.out.row hb9 ht9 hf9);clear hb9 ht9 hf9)
 try go_wp2_with fail
 refine hK.out _ _ (Or.inr (fun _=>⟨X.out.c3 (i:=1) rfl,X.out.c3 (i:=2) rfl⟩)) ?_
 clear hK K
 try simp only [Act.put,seti,set0,setS]
 refine tk (i:=10) (oi:=⟨some 7,_,_,_,_,_⟩) (v:=_) rfl (by kernel_rfl) (fun _ _ _ h=>h) (⟨X.out.c3 (i:=1) rfl,X.out.c3 (i:=2) rfl⟩) (Or.inl ⟨by rfl,by intro w hSw;(try dsimp only at hSw);(first | (go_simp;done) | (go_simp;with_reducible rfl))⟩) ?_
 try simp only [Act.put,seti,set0,setS]
 refine tk (i:=11) (oi:=⟨some 8,_,_,_,_,_⟩) (v:=_) rfl (by kernel_rfl) (fun _ _ _ h=>h) (⟨X.out.c3 (i:=1) rfl,X.out.c3 (i:=2) rfl⟩) (Or.inl ⟨by rfl,by intro w hSw;(try dsimp only at hSw);(first | (go_simp;done) | (go_simp;with_reducible rfl))⟩) ?_
 try simp only [Act.put,seti,set0,setS]
 refine wpLate_done (by kernel_rfl) ?_ _
 go_wp2_with fail
 go_meet
 exact ⟨_,_,_,_,_,_,rfl,rfl,X.out⟩):p:=h
theorem k2 {p:Prop} (h:p:=by
 have X:=Lib.hid X.out.drew
 obtain ⟨V0,hV⟩:=wexi X.out
 rw [←hV] at X ⊢
 clear hV
 refine tk (i:=0) (oi:=⟨some 9,_,_,_,_,_⟩) (v:=_) rfl (by kernel_rfl) (fun _ _ _ h=>h) (X.out.c3 (i:=2) rfl) (Or.inl ⟨by rfl,by intro w hSw;(try dsimp only at hSw);(first | (go_simp;done) | (go_simp;with_reducible rfl))⟩) ?_
 try simp only [Act.put,seti,set0,setS]
 refine tk (i:=1) (oi:=⟨some 10,_,_,_,_,_⟩) (v:=_) rfl (by kernel_rfl) (fun _ _ _ h=>h) (X.out.c3 (i:=2) rfl) (Or.inl ⟨by rfl,by intro w hSw;(try dsimp only at hSw);(first | (go_simp;done) | (go_simp;with_reducible rfl))⟩) ?_
 try simp only [Act.put,seti,set0,setS]
 refine tk (i:=3) (oi:=⟨some 12,_,_,_,_,_⟩) (v:=_) rfl (by kernel_rfl) (fun _ _ _ h=>h) (X.out.c3 (i:=2) rfl) (Or.inl ⟨by rfl,by intro w hSw;(try dsimp only at hSw);(first | (go_simp;done) | (go_simp;with_reducible rfl))⟩) ?_
 try simp only [Act.put,seti,set0,setS]
 refine tk (i:=4) (oi:=⟨some 13,_,_,_,_,_⟩) (v:=_) rfl (by kernel_rfl) (fun _ _ _ h=>h) (X.out.c3 (i:=2) rfl) (Or.inl ⟨by rfl,by intro w hSw;(try dsimp only at hSw);(first | (go_simp;done) | (go_simp;with_reducible rfl))⟩) ?_
 try simp only [Act.put,seti,set0,setS]
 refine wpLate_one (i:=2) (o:=⟨some 11,_,_,_,_,_⟩) (by kernel_rfl) rfl (fun K hK=>?_)
 go_simp
 (go_at_call 120;refine (HRN.out _ _ _ _ (X.out.rw (i:=0) rfl)).mono ?_;rintro e u1 ⟨A1,n1,c1,rfl,ht9,hb9⟩;have TG1:=Lib.hid ht9;have X:=Lib.hid (X.out.next hb9);clear hb9 ht9)
 try go_wp2_with fail
 refine hK.out _ _ (Or.inr (fun _=>X.out.c3 (i:=2) rfl)) ?_
 clear hK K
 try simp only [Act.put,seti,set0,setS]
 refine wpLate_one (i:=5) (o:=⟨some 14,_,_,_,_,_⟩) (by kernel_rfl) rfl (fun K hK=>?_)
 go_simp
 (go_at_call 120;refine (HRD.out _ _ _ _ (X.out.rw (i:=1) rfl)).mono ?_;rintro e u2 ⟨A2,n2,c2,rfl,ht9,hb9⟩;have TG1:=Lib.hid (TG1.out.below hb9);have TG2:=Lib.hid ht9;have X:=Lib.hid (X.out.next hb9);clear hb9 ht9)
 try go_wp2_with fail
 refine hK.out _ _ (Or.inr (fun _=>X.out.c3 (i:=2) rfl)) ?_
 clear hK K
 try simp only [Act.put,seti,set0,setS]
 refine tk (i:=6) (oi:=⟨some 5,_,_,_,_,_⟩) (v:=_) rfl (by kernel_rfl) (fun _ _ _ h=>h) (X.out.c3 (i:=2) rfl) (Or.inl ⟨by rfl,by intro w hSw;(try dsimp only at hSw);(first | (go_simp;done) | (go_simp;with_reducible rfl))⟩) ?_
 try simp only [Act.put,seti,set0,setS]
 refine tk (i:=7) (oi:=⟨some 6,_,_,_,_,_⟩) (v:=_) rfl (by kernel_rfl) (fun _ _ _ h=>h) (X.out.c3 (i:=2) rfl) (Or.inl ⟨by rfl,by intro w hSw;(try dsimp only at hSw);(first | (go_simp;done) | (go_simp;with_reducible rfl))⟩) ?_
 try simp only [Act.put,seti,set0,setS]
 refine wpLate_done (by kernel_rfl) ?_ _
 go_wp2_with fail
 go_meet
 exact ⟨_,_,_,_,_,_,rfl,rfl,TG1.out,TG2.out,X.out⟩):p:=h
theorem k3 {p:Prop} (h:p:=by
 refine wp_region_any (by kernel_rfl) ?_
 have X:=Lib.hid X.out.drew
 obtain ⟨W0,hV⟩:=wexi X.out
 rw [show ∀ v:World,{ v with drawn:=v.drawn+1 }=v.drew from fun _=>rfl,←hV]
 rw [←hV] at X
 clear hV
 refine rg_run (ef:=[.val (.agg #[.bool b1,.string m1,.bool false,.string k1]),.rel (FracP b1 p.num.natAbs p.den),.val (.agg #[.bool (!b1),.string m2,.bool false,.string k2]),.rel (FracP (!b1) q.num.natAbs q.den),.new #[.bool false,.slice none 0 0,.slice none 0 0] 110,.new #[.bool false,.slice none 0 0,.slice none 0 0] 110]) (ds:=[10,11,12,13,5,6]) (by kernel_rfl) (stays_of (List.forall_mem_cons.2 ⟨trivial,(List.forall_mem_cons.2 ⟨fine_frac _ _ _,(List.forall_mem_cons.2 ⟨trivial,(List.forall_mem_cons.2 ⟨fine_frac _ _ _,(List.forall_mem_cons.2 ⟨trivial,(List.forall_mem_cons.2 ⟨trivial,(fun _ h=>by simp at h)⟩)⟩)⟩)⟩)⟩)⟩)) (by decide) rfl (by intro d hd;simp at hd ⊢;omega) (fun i d o hd ho listed a w1 hR hdep K hK=>?_) 2 (fun a w1 hR=>?_)
 · have X:=Lib.hid (X.out.next hR.bel)
   have HKt:=Lib.hid hK
   have HDp:=Lib.hid hdep
   have sl2:a.tmps.getD 2 undef=.pointer (some ⟨w.heap.size,0,none⟩):=hR.keep 2 (by decide)
   have sl3:a.tmps.getD 3 undef=.pointer (some ⟨w.heap.size+1,0,none⟩):=hR.keep 3 (by decide)
   have HRg:=Lib.hid hR
   clear hK hdep hR
   rcases i with _ | _ | _ | _ | _ | _ | i
   · cases hd
     cases ho
     obtain ⟨x00,x01,x02,x03⟩:=X.out.c4 (i:=0) rfl
     obtain ⟨x10,x11,x12,x13⟩:=X.out.c4 (i:=1) rfl
     go_simp
     exact HKt.out _ _ (Or.inl ⟨rfl,Below.refl _ _⟩)
   · cases hd
     cases ho
     have dd0:a.tmps.getD 10 undef=.agg #[.bool b1,.string m1,.bool false,.string k1]:=HRg.out.val 0 _ (HDp.out 0 (by decide)) rfl
     go_simp
     (go_at_call 119;refine (HF1.out _).mono ?_;rintro e u ⟨A9,n9,c9,B9,m9,d9,rfl,hT9,hU9,hb9,_,_⟩)
     try go_wp2_with fail
     exact HKt.out _ _ (Or.inr (Or.inr ⟨_,rfl,⟨A9,n9,c9,B9,m9,d9,rfl,hT9,hU9⟩,hb9⟩))
   · cases hd
     cases ho
     obtain ⟨x00,x01,x02,x03⟩:=X.out.c4 (i:=0) rfl
     obtain ⟨x10,x11,x12,x13⟩:=X.out.c4 (i:=1) rfl
     go_simp
     exact HKt.out _ _ (Or.inl ⟨rfl,Below.refl _ _⟩)
   · cases hd
     cases ho
     have dd2:a.tmps.getD 12 undef=.agg #[.bool (!b1),.string m2,.bool false,.string k2]:=HRg.out.val 2 _ (HDp.out 2 (by decide)) rfl
     go_simp
     (go_at_call 119;refine (HF2.out _).mono ?_;rintro e u ⟨A9,n9,c9,B9,m9,d9,rfl,hT9,hU9,hb9,_,_⟩)
     try go_wp2_with fail
     exact HKt.out _ _ (Or.inr (Or.inr ⟨_,rfl,⟨A9,n9,c9,B9,m9,d9,rfl,hT9,hU9⟩,hb9⟩))
   · cases hd
     cases ho
     go_simp
     exact HKt.out _ _ (Or.inr (Or.inl ⟨_,_,rfl,rfl,rfl⟩))
   · cases hd
     cases ho
     go_simp
     exact HKt.out _ _ (Or.inr (Or.inl ⟨_,_,rfl,rfl,rfl⟩))
   · cases hd
 obtain ⟨g4,hg4,lg4,kg4⟩:=hR.new 4 _ _ (by rfl) rfl
 obtain ⟨g5,hg5,lg5,kg5⟩:=hR.new 5 _ _ (by rfl) rfl
 have vv0:a.tmps.getD 10 undef=.agg #[.bool b1,.string m1,.bool false,.string k1]:=hR.val 0 _ (by rfl) rfl
 obtain ⟨A1,n1,c1,B1,m1,d1,vv1,hT1,hU1⟩:=hR.rel 1 _ (by rfl) rfl
 replace vv1:a.tmps.getD 11 undef=.agg #[.bool b1,.slice A1 n1 c1,.slice B1 m1 d1]:=vv1
 have vv2:a.tmps.getD 12 undef=.agg #[.bool (!b1),.string m2,.bool false,.string k2]:=hR.val 2 _ (by rfl) rfl
 obtain ⟨A3,n3,c3,B3,m3,d3,vv3,hT3,hU3⟩:=hR.rel 3 _ (by rfl) rfl
 replace vv3:a.tmps.getD 13 undef=.agg #[.bool (!b1),.slice A3 n3 c3,.slice B3 m3 d3]:=vv3
 replace hg4:a.tmps.getD 5 undef=.pointer (some ⟨g4,0,none⟩):=hg4
 replace hg5:a.tmps.getD 6 undef=.pointer (some ⟨g5,0,none⟩):=hg5
 have hne:g4≠g5:=fun e=>hR.ne 4 5 _ _ _ _ g4 (by decide) (by rfl) (by rfl) rfl rfl hg4 (by rw [e];exact hg5)
 have X:=Lib.hid (X.out.add2 hR.bel lg4 kg4 lg5 kg5 hne)
 have X:=Lib.hid (X.out.rows [(A1,n1,c1,p.num.natAbs),(B1,m1,d1,p.den),(A3,n3,c3,q.num.natAbs),(B3,m3,d3,q.den)] (List.forall_mem_cons.2 ⟨hT1,List.forall_mem_cons.2 ⟨hU1,(List.forall_mem_cons.2 ⟨hT3,List.forall_mem_cons.2 ⟨hU3,(fun _ h=>by simp at h)⟩⟩)⟩⟩) (by intro x hx;simp at hx;rcases hx with rfl | rfl | rfl | rfl | rfl<;>(intro j k n;rcases j with _ | _ | _ | _ | _ | j<;>simp)))
 have ha:=hR.act
 simp only [List.foldl_cons,List.foldl_nil,seti,set0,setS,vv0,vv1,vv2,vv3,hg4,hg5] at ha
 subst ha
 clear hR vv0 vv1 vv2 vv3 hg4 lg4 kg4 hg5 lg5 kg5 hne
 refine wpAny_of_late (S:=fun _=>True) (L:=[]) _ _ _ _ ?_
 refine wpLate_one (i:=6) (o:=⟨none,_,_,_,_,_⟩) (by kernel_rfl) rfl (fun K hK=>?_)
 obtain ⟨x0,x1,x2⟩:=X.out.c3 (i:=3) rfl
 obtain ⟨y0,y1,y2⟩:=X.out.f3 (i:=3) rfl
 have X:=Lib.hid (X.out.set3 (i:=3) rfl (.bool b1) (.slice A1 n1 c1) (.slice B1 m1 d1))
 go_simp
 refine hK.out _ _ (Or.inr fun _=>trivial) ?_
 clear hK K x0 x1 x2 y0 y1 y2
 obtain ⟨W6,hV⟩:=wexi X.out
 rw [←hV] at X ⊢
 clear hV
 try simp only [Act.put]
 refine wpLate_one (i:=7) (o:=⟨none,_,_,_,_,_⟩) (by kernel_rfl) rfl (fun K hK=>?_)
 obtain ⟨x0,x1,x2⟩:=X.out.c3 (i:=4) rfl
 obtain ⟨y0,y1,y2⟩:=X.out.f3 (i:=4) rfl
 have X:=Lib.hid (X.out.set3 (i:=4) rfl (.bool (!b1)) (.slice A3 n3 c3) (.slice B3 m3 d3))
 go_simp
 refine hK.out _ _ (Or.inr fun _=>trivial) ?_
 clear hK K x0 x1 x2 y0 y1 y2
 obtain ⟨W7,hV⟩:=wexi X.out
 rw [←hV] at X ⊢
 clear hV
 try simp only [Act.put]
 refine wpLate_done (by kernel_rfl) ?_ _
 go_wp2_with fail
 go_meet
 exact ⟨_,_,_,_,_,_,_,_,_,_,_,_,_,_,rfl,rfl,X.out.pick [2,3,4] _ _ rfl (by decide) (fun _ h=>h)⟩):p:=h
theorem k4 {p:Prop} (h:p:=by
 refine wp_region_any (by kernel_rfl) ?_
 have X:=Lib.hid X.out.drew
 obtain ⟨W0,hV⟩:=wexi X.out
 rw [show ∀ v:World,{ v with drawn:=v.drawn+1 }=v.drew from fun _=>rfl,←hV]
 rw [←hV] at X
 clear hV
 refine rg_run (ef:=[.val (.agg #[.bool b1,.string m1,.bool false,.string k1]),.rel (FracP b1 p.num.natAbs p.den),.val (.agg #[.bool b2,.string m2,.bool false,.string k2]),.rel (FracP b2 q.num.natAbs q.den),.new #[.bool false,.slice none 0 0,.slice none 0 0] 110,.new #[.bool false,.slice none 0 0,.slice none 0 0] 110]) (ds:=[7,8,9,10,5,6]) (by kernel_rfl) (stays_of (List.forall_mem_cons.2 ⟨trivial,(List.forall_mem_cons.2 ⟨fine_frac _ _ _,(List.forall_mem_cons.2 ⟨trivial,(List.forall_mem_cons.2 ⟨fine_frac _ _ _,(List.forall_mem_cons.2 ⟨trivial,(List.forall_mem_cons.2 ⟨trivial,(fun _ h=>by simp at h)⟩)⟩)⟩)⟩)⟩)⟩)) (by decide) rfl (by intro d hd;simp at hd ⊢;omega) (fun i d o hd ho listed a w1 hR hdep K hK=>?_) 2 (fun a w1 hR=>?_)
 · have X:=Lib.hid (X.out.next hR.bel)
   have HKt:=Lib.hid hK
   have HDp:=Lib.hid hdep
   have sl2:a.tmps.getD 2 undef=.pointer (some ⟨w.heap.size,0,none⟩):=hR.keep 2 (by decide)
   have sl3:a.tmps.getD 3 undef=.pointer (some ⟨w.heap.size+1,0,none⟩):=hR.keep 3 (by decide)
   have HRg:=Lib.hid hR
   clear hK hdep hR
   rcases i with _ | _ | _ | _ | _ | _ | i
   · cases hd
     cases ho
     obtain ⟨x00,x01,x02,x03⟩:=X.out.c4 (i:=0) rfl
     obtain ⟨x10,x11,x12,x13⟩:=X.out.c4 (i:=1) rfl
     go_simp
     exact HKt.out _ _ (Or.inl ⟨rfl,Below.refl _ _⟩)
   · cases hd
     cases ho
     have dd0:a.tmps.getD 7 undef=.agg #[.bool b1,.string m1,.bool false,.string k1]:=HRg.out.val 0 _ (HDp.out 0 (by decide)) rfl
     go_simp
     (go_at_call 119;refine (HF1.out _).mono ?_;rintro e u ⟨A9,n9,c9,B9,m9,d9,rfl,hT9,hU9,hb9,_,_⟩)
     try go_wp2_with fail
     exact HKt.out _ _ (Or.inr (Or.inr ⟨_,rfl,⟨A9,n9,c9,B9,m9,d9,rfl,hT9,hU9⟩,hb9⟩))
   · cases hd
     cases ho
     obtain ⟨x00,x01,x02,x03⟩:=X.out.c4 (i:=0) rfl
     obtain ⟨x10,x11,x12,x13⟩:=X.out.c4 (i:=1) rfl
     go_simp
     exact HKt.out _ _ (Or.inl ⟨rfl,Below.refl _ _⟩)
   · cases hd
     cases ho
     have dd2:a.tmps.getD 9 undef=.agg #[.bool b2,.string m2,.bool false,.string k2]:=HRg.out.val 2 _ (HDp.out 2 (by decide)) rfl
     go_simp
     (go_at_call 119;refine (HF2.out _).mono ?_;rintro e u ⟨A9,n9,c9,B9,m9,d9,rfl,hT9,hU9,hb9,_,_⟩)
     try go_wp2_with fail
     exact HKt.out _ _ (Or.inr (Or.inr ⟨_,rfl,⟨A9,n9,c9,B9,m9,d9,rfl,hT9,hU9⟩,hb9⟩))
   · cases hd
     cases ho
     go_simp
     exact HKt.out _ _ (Or.inr (Or.inl ⟨_,_,rfl,rfl,rfl⟩))
   · cases hd
     cases ho
     go_simp
     exact HKt.out _ _ (Or.inr (Or.inl ⟨_,_,rfl,rfl,rfl⟩))
   · cases hd
 obtain ⟨g4,hg4,lg4,kg4⟩:=hR.new 4 _ _ (by rfl) rfl
 obtain ⟨g5,hg5,lg5,kg5⟩:=hR.new 5 _ _ (by rfl) rfl
 have vv0:a.tmps.getD 7 undef=.agg #[.bool b1,.string m1,.bool false,.string k1]:=hR.val 0 _ (by rfl) rfl
 obtain ⟨A1,n1,c1,B1,m1,d1,vv1,hT1,hU1⟩:=hR.rel 1 _ (by rfl) rfl
 replace vv1:a.tmps.getD 8 undef=.agg #[.bool b1,.slice A1 n1 c1,.slice B1 m1 d1]:=vv1
 have vv2:a.tmps.getD 9 undef=.agg #[.bool b2,.string m2,.bool false,.string k2]:=hR.val 2 _ (by rfl) rfl
 obtain ⟨A3,n3,c3,B3,m3,d3,vv3,hT3,hU3⟩:=hR.rel 3 _ (by rfl) rfl
 replace vv3:a.tmps.getD 10 undef=.agg #[.bool b2,.slice A3 n3 c3,.slice B3 m3 d3]:=vv3
 replace hg4:a.tmps.getD 5 undef=.pointer (some ⟨g4,0,none⟩):=hg4
 replace hg5:a.tmps.getD 6 undef=.pointer (some ⟨g5,0,none⟩):=hg5
 have hne:g4≠g5:=fun e=>hR.ne 4 5 _ _ _ _ g4 (by decide) (by rfl) (by rfl) rfl rfl hg4 (by rw [e];exact hg5)
 have X:=Lib.hid (X.out.add2 hR.bel lg4 kg4 lg5 kg5 hne)
 have X:=Lib.hid (X.out.rows [(A1,n1,c1,p.num.natAbs),(B1,m1,d1,p.den),(A3,n3,c3,q.num.natAbs),(B3,m3,d3,q.den)] (List.forall_mem_cons.2 ⟨hT1,List.forall_mem_cons.2 ⟨hU1,(List.forall_mem_cons.2 ⟨hT3,List.forall_mem_cons.2 ⟨hU3,(fun _ h=>by simp at h)⟩⟩)⟩⟩) (by intro x hx;simp at hx;rcases hx with rfl | rfl | rfl | rfl | rfl<;>(intro j k n;rcases j with _ | _ | _ | _ | _ | j<;>simp)))
 have ha:=hR.act
 simp only [List.foldl_cons,List.foldl_nil,seti,set0,setS,vv0,vv1,vv2,vv3,hg4,hg5] at ha
 subst ha
 clear hR vv0 vv1 vv2 vv3 hg4 lg4 kg4 hg5 lg5 kg5 hne
 refine wpAny_of_late (S:=fun _=>True) (L:=[]) _ _ _ _ ?_
 refine wpLate_one (i:=6) (o:=⟨none,_,_,_,_,_⟩) (by kernel_rfl) rfl (fun K hK=>?_)
 obtain ⟨x0,x1,x2⟩:=X.out.c3 (i:=3) rfl
 obtain ⟨y0,y1,y2⟩:=X.out.f3 (i:=3) rfl
 have X:=Lib.hid (X.out.set3 (i:=3) rfl (.bool b1) (.slice A1 n1 c1) (.slice B1 m1 d1))
 go_simp
 refine hK.out _ _ (Or.inr fun _=>trivial) ?_
 clear hK K x0 x1 x2 y0 y1 y2
 obtain ⟨W6,hV⟩:=wexi X.out
 rw [←hV] at X ⊢
 clear hV
 try simp only [Act.put]
 refine wpLate_one (i:=7) (o:=⟨none,_,_,_,_,_⟩) (by kernel_rfl) rfl (fun K hK=>?_)
 obtain ⟨x0,x1,x2⟩:=X.out.c3 (i:=4) rfl
 obtain ⟨y0,y1,y2⟩:=X.out.f3 (i:=4) rfl
 have X:=Lib.hid (X.out.set3 (i:=4) rfl (.bool b2) (.slice A3 n3 c3) (.slice B3 m3 d3))
 go_simp
 refine hK.out _ _ (Or.inr fun _=>trivial) ?_
 clear hK K x0 x1 x2 y0 y1 y2
 obtain ⟨W7,hV⟩:=wexi X.out
 rw [←hV] at X ⊢
 clear hV
 try simp only [Act.put]
 refine wpLate_done (by kernel_rfl) ?_ _
 go_wp2_with fail
 go_meet
 exact ⟨_,_,_,_,_,_,_,_,_,_,_,_,_,_,rfl,rfl,X.out.pick [2,3,4] _ _ rfl (by decide) (fun _ h=>h)⟩):p:=h
theorem k5 {p:Prop} (h:p:=by
 have X:=Lib.hid X.out.drew
 obtain ⟨V0,hV⟩:=wexi X.out
 rw [←hV] at X ⊢
 clear hV
 refine tk (i:=0) (oi:=⟨some 18,_,_,_,_,_⟩) (v:=_) rfl (by kernel_rfl) (fun _ _ _ h=>h) (⟨X.out.c4 (i:=0) rfl,X.out.c2 (i:=3) rfl,X.out.c4 (i:=1) rfl⟩) (Or.inl ⟨by rfl,by intro w hSw;(try dsimp only at hSw);(first | (go_simp;done) | (go_simp;with_reducible rfl))⟩) ?_
 try simp only [Act.put,seti,set0,setS]
 refine tk (i:=1) (oi:=⟨some 19,_,_,_,_,_⟩) (v:=_) rfl (by kernel_rfl) (fun _ _ _ h=>h) (⟨X.out.c4 (i:=0) rfl,X.out.c2 (i:=3) rfl,X.out.c4 (i:=1) rfl⟩) (Or.inl ⟨by rfl,by intro w hSw;(try dsimp only at hSw);(first | (go_simp;done) | (go_simp;with_reducible rfl))⟩) ?_
 try simp only [Act.put,seti,set0,setS]
 refine tk (i:=2) (oi:=⟨some 20,_,_,_,_,_⟩) (v:=_) rfl (by kernel_rfl) (fun _ _ _ h=>h) (⟨X.out.c4 (i:=0) rfl,X.out.c2 (i:=3) rfl,X.out.c4 (i:=1) rfl⟩) (Or.inl ⟨by rfl,by intro w hSw;(try dsimp only at hSw);(first | (go_simp;done) | (go_simp;with_reducible rfl))⟩) ?_
 try simp only [Act.put,seti,set0,setS]
 refine tk (i:=3) (oi:=⟨some 21,_,_,_,_,_⟩) (v:=_) rfl (by kernel_rfl) (fun _ _ _ h=>h) (⟨X.out.c4 (i:=0) rfl,X.out.c2 (i:=3) rfl,X.out.c4 (i:=1) rfl⟩) (Or.inl ⟨by rfl,by intro w hSw;(try dsimp only at hSw);(first | (go_simp;done) | (go_simp;with_reducible rfl))⟩) ?_
 try simp only [Act.put,seti,set0,setS]
 refine wpLate_one (i:=4) (o:=⟨some 22,_,_,_,_,_⟩) (by kernel_rfl) rfl (fun K hK=>?_)
 go_simp
 (go_at_call 173;refine (HAB.out _).mono ?_;rintro e u1 ⟨rfl,hb9⟩;have X:=Lib.hid (X.out.next hb9);clear hb9)
 try go_wp2_with fail
 refine hK.out _ _ (Or.inr (fun _=>⟨X.out.c4 (i:=0) rfl,X.out.c2 (i:=3) rfl,X.out.c4 (i:=1) rfl⟩)) ?_
 clear hK K
 try simp only [Act.put,seti,set0,setS]
 refine wpLate_one (i:=5) (o:=⟨some 23,_,_,_,_,_⟩) (by kernel_rfl) rfl (fun K hK=>?_)
 go_simp
 (go_at_call 129;refine (HCP.out _ (HE.out _ X.out.bel)).mono ?_;rintro e u2 ⟨rfl,hb9⟩;have X:=Lib.hid (X.out.next hb9);clear hb9)
 try go_wp2_with fail
 refine hK.out _ _ (Or.inr (fun _=>⟨X.out.c4 (i:=0) rfl,X.out.c2 (i:=3) rfl,X.out.c4 (i:=1) rfl⟩)) ?_
 clear hK K
 try simp only [Act.put,seti,set0,setS]
 refine wpLate_one (i:=6) (o:=⟨some 24,_,_,_,_,_⟩) (by kernel_rfl) rfl (fun K hK=>?_)
 go_simp
 (go_at_call 75;refine (HM.out _ (HE.out _ X.out.bel)).mono ?_;rintro e u3 ⟨rfl,hb9⟩;have X:=Lib.hid (X.out.next hb9);clear hb9)
 try go_wp2_with fail
 refine hK.out _ _ (Or.inr (fun _=>⟨X.out.c4 (i:=0) rfl,X.out.c2 (i:=3) rfl,X.out.c4 (i:=1) rfl⟩)) ?_
 clear hK K
 try simp only [Act.put,seti,set0,setS]
 refine wpLate_one (i:=7) (o:=⟨none,_,_,_,_,_⟩) (by kernel_rfl) rfl (fun K hK=>?_)
 obtain ⟨x0,x1,x2,x3⟩:=X.out.c4 (i:=2) rfl
 obtain ⟨y0,y1,y2,y3⟩:=X.out.f4 (i:=2) rfl
 have X:=Lib.hid (X.out.set4 (i:=2) rfl (.bool b3) (.string m3) (.bool false) (.string k3))
 go_simp
 refine hK.out _ _ (Or.inr (fun _=>⟨X.out.c4 (i:=0) rfl,X.out.c2 (i:=3) rfl,X.out.c4 (i:=1) rfl⟩)) ?_
 clear hK K x0 x1 x2 x3 y0 y1 y2 y3
 try simp only [Act.put,seti,set0,setS]
 obtain ⟨W4,hV⟩:=wexi X.out
 rw [←hV] at X ⊢
 clear hV
 refine tk (i:=8) (oi:=⟨some 5,_,_,_,_,_⟩) (v:=_) rfl (by kernel_rfl) (fun _ _ _ h=>h) (⟨X.out.c4 (i:=0) rfl,X.out.c2 (i:=3) rfl,X.out.c4 (i:=1) rfl⟩) (Or.inl ⟨by rfl,by intro w hSw;(try dsimp only at hSw);(first | (go_simp;done) | (go_simp;with_reducible rfl))⟩) ?_
 try simp only [Act.put,seti,set0,setS]
 refine wpLate_done (by kernel_rfl) ?_ _
 go_wp2
 obtain ⟨p0,p1,p2,p3⟩:=X.out.c4 (i:=2) rfl
 exact bodyPost_ret (v:=.tuple #[.agg #[.bool b3,.string m3,.bool false,.string k3],.int .i64 0]) (by simp [results,Tryz.results136,go_sem,p0,p1,p2,p3]) rfl ⟨rfl,X.out.bel⟩):p:=h
theorem k6 {p:Prop} (h:p:=by
 refine (packWord_any _ _ (by omega) _).mono fun e w2 h=>?_
 obtain ⟨b2,m2,HB2,rfl,hb2⟩:=h.form
 have hb3:=hb1.trans (hb2.mono hb1.size)
 obtain ⟨p0,p1,g0,g1⟩:=res2 (g:=w.heap.size) (by exact heap_fst _ _ _) hb3 (by show _<((w.alloc _).alloc _).heap.size;simp<;>omega)
 obtain ⟨q0,q1,f0,f1⟩:=res2 (g:=w.heap.size+1) (by exact heap_two _ _ _) hb3 (by show _<((w.alloc _).alloc _).heap.size;simp<;>omega)
 have HB3:=Lib.hid hb3
 clear h hb1 hb2 hb3 e1 e2
 go_wp2
 refine bodyPost_ret (v:=.tuple #[.agg #[.bool b1,.string m1],.agg #[.bool b2,.string m2],.int .i64 0]) (by simp [results,Tryz.results150,go_sem,p0,p1,q0,q1]) rfl ⟨?_,?_⟩
 · rw [HD1.out,HD2.out,←HB1.out,←HB2.out]
   simp [hr0]
   try rfl
 · have hx0:=HB3.out
   refine ((((Below.trans ?_ (hx0.mono (B':=w.heap.size) (by show _≤((w.alloc _).alloc _).heap.size;simp<;>omega))).setCell (by simp) _).setCell (by simp) _).setCell (by simp) _).setCell (by simp) _
   exact below_draws (((Below.refl _ _).alloc (Nat.le_refl _) _).alloc (by simp) _) _):p:=h
theorem k7 {p:Prop} (h:p:=by
 go_region_law (first
  | (go_simp;go_at_call 95;(with_reducible refine (HMU.out _).mono ?_);rintro e w7 ⟨rfl,hb7⟩;(first | (have hs7:=st_drew (V:=w6) hb7) | (have hs7:=st_new_drew (V:=w6) hb7;have NN:=Lib.hid (((Bs.new (w:=w) w6 #[.bool false,.string ⟨#[]⟩] KV.out.sz).next (Below.refl _ _).drew).next hb7)));have KV:=Lib.hid (KV.out.next hs7);have V6:=Lib.hid (V6.out.next hs7);have V7:=Lib.hid (V7.out.next hs7);have N7:=hs7.size;obtain ⟨h0,h1,h2,h3,h4⟩:=blk5 KV.out.k2;obtain ⟨i0,i1,i2,i3,i4⟩:=blk5 (KV.out.next (below_new w7 (.cells #[.bool false,.string ⟨#[]⟩] 23))).k2;clear hb7 hs7)
  | (go_simp; go_at_call 98; (with_reducible refine (HSU.out _).mono ?_); rintro e w8 ⟨rfl, hb8⟩; (first
     | (have KV:=Lib.hid (KV.out.next hb8);have V6:=Lib.hid (V6.out.next hb8);have V7:=Lib.hid (V7.out.next hb8);(first | (have NN:=Lib.hid (NN.out.next hb8);obtain ⟨p0,p1,p2,p3⟩:=blk_cells NN.out.k) | skip);clear hb8)
     | (have hs8:=st_new (V:=w7) hb8;have NN:=Lib.hid ((Bs.new (w:=w) w7 #[.bool false,.string ⟨#[]⟩] KV.out.sz).next hb8);obtain ⟨p0,p1,p2,p3⟩:=blk_cells NN.out.k;have KV:=Lib.hid (KV.out.next hs8);have V6:=Lib.hid (V6.out.next hs8);have V7:=Lib.hid (V7.out.next hs8);clear hb8 hs8))))
 all_goals
  go_wp2_with fail
  go_meet
  first
  | exact ⟨_,rfl,R7.late KV.out V6.out V7.out _⟩
  | exact ⟨_,rfl,R7.early KV.out V6.out V7.out NN.out (by omega) (by omega) _ _⟩):p:=h
theorem k8 {p:Prop} (h:p:=by
 intro w hSw;(try dsimp only at hSw);(first | (go_simp;done) | (go_simp;with_reducible rfl))):p:=h
theorem k9 {p:Prop} (h:p:=by
 cases hd
 cases ho
 obtain ⟨x00,x01,x02,x03⟩:=X.out.c4 (i:=0) rfl
 obtain ⟨x10,x11,x12,x13⟩:=X.out.c4 (i:=1) rfl
 go_simp
 exact HKt.out _ _ (Or.inl ⟨rfl,Below.refl _ _⟩)):p:=h
theorem k10 {p:Prop} (h:p:=by
 try simp only [Act.put,seti,set0,setS]
 refine tk (i:=10) (oi:=⟨some 25,_,_,_,_,_⟩) (v:=_) rfl (by kernel_rfl) (fun _ _ _ h=>h) (X.out.c3 (i:=2) rfl) (Or.inl ⟨by rfl,by intro w hSw;(try dsimp only at hSw);(first | (go_simp;done) | (go_simp;with_reducible rfl))⟩) ?_
 try simp only [Act.put,seti,set0,setS]
 refine tk (i:=11) (oi:=⟨some 26,_,_,_,_,_⟩) (v:=_) rfl (by kernel_rfl) (fun _ _ _ h=>h) (X.out.c3 (i:=2) rfl) (Or.inl ⟨by rfl,by intro w hSw;(try dsimp only at hSw);(first | (go_simp;done) | (go_simp;with_reducible rfl))⟩) ?_
 try simp only [Act.put,seti,set0,setS]
 refine tk (i:=12) (oi:=⟨some 27,_,_,_,_,_⟩) (v:=undef) rfl (by kernel_rfl) (fun _ _ _ h=>h) (X.out.c3 (i:=2) rfl) (Or.inr ⟨by rfl,rfl⟩) ?_
 try simp only [Act.put,seti,set0,setS]
 refine tk (i:=13) (oi:=⟨some 28,_,_,_,_,_⟩) (v:=undef) rfl (by kernel_rfl) (fun _ _ _ h=>h) (X.out.c3 (i:=2) rfl) (Or.inr ⟨by rfl,rfl⟩) ?_
 try simp only [Act.put,seti,set0,setS]
 refine tk (i:=14) (oi:=⟨some 29,_,_,_,_,_⟩) (v:=undef) rfl (by kernel_rfl) (fun _ _ _ h=>h) (X.out.c3 (i:=2) rfl) (Or.inr ⟨by rfl,rfl⟩) ?_
 try simp only [Act.put,seti,set0,setS]
 refine tk (i:=15) (oi:=⟨some 30,_,_,_,_,_⟩) (v:=undef) rfl (by kernel_rfl) (fun _ _ _ h=>h) (X.out.c3 (i:=2) rfl) (Or.inr ⟨by rfl,rfl⟩) ?_
 try simp only [Act.put,seti,set0,setS]
 refine tk (i:=16) (oi:=⟨some 31,_,_,_,_,_⟩) (v:=undef) rfl (by kernel_rfl) (fun _ _ _ h=>h) (X.out.c3 (i:=2) rfl) (Or.inr ⟨by rfl,rfl⟩) ?_
 try simp only [Act.put,seti,set0,setS]
 refine tk (i:=17) (oi:=⟨some 32,_,_,_,_,_⟩) (v:=undef) rfl (by kernel_rfl) (fun _ _ _ h=>h) (X.out.c3 (i:=2) rfl) (Or.inr ⟨by rfl,rfl⟩) ?_
 try simp only [Act.put,seti,set0,setS]
 refine tk (i:=18) (oi:=⟨some 33,_,_,_,_,_⟩) (v:=undef) rfl (by kernel_rfl) (fun _ _ _ h=>h) (X.out.c3 (i:=2) rfl) (Or.inr ⟨by rfl,rfl⟩) ?_
 try simp only [Act.put,seti,set0,setS]
 refine tk (i:=19) (oi:=⟨some 34,_,_,_,_,_⟩) (v:=_) rfl (by kernel_rfl) (fun _ _ _ h=>h) (X.out.c3 (i:=2) rfl) (Or.inl ⟨by rfl,by intro w hSw;(try dsimp only at hSw);(first | (go_simp;done) | (go_simp;with_reducible rfl))⟩) ?_
 try simp only [Act.put,seti,set0,setS]
 refine wpLate_done (by kernel_rfl) ?_ _
 obtain ⟨x0,x1,x2,x3⟩:=X.out.c4 (i:=1) rfl
 obtain ⟨y0,y1,y2,y3⟩:=X.out.f4 (i:=1) rfl
 go_wp2
 have X:=Lib.hid (X.out.set4 (i:=1) rfl (.bool false) (.string ⟨#[]⟩) (.bool false) (.string ⟨#[]⟩))
 obtain ⟨p0,p1,p2,p3⟩:=X.out.c4 (i:=1) rfl
 exact bodyPost_ret (v:=.tuple #[.agg #[.bool false,.string ⟨#[]⟩,.bool false,.string ⟨#[]⟩],.bool false]) (by simp [results,Tryz.results68,go_sem,p0,p1,p2,p3]) rfl ⟨rfl,X.out.bel⟩):p:=h
theorem k11 {p:Prop} (h:p:=by
 have hD2:2≤D:=hDa
 have hD3:D≤201:=by omega
 have hD4:(D:Int)≤200:=by omega
 clear hDa hDb
 have C1:=Lib.hid HZ
 have C2:=Lib.hid HI0
 have C3:=Lib.hid HS
 have C4:=Lib.hid HF
 have C5:=Lib.hid HO
 have C6:=Lib.hid HA
 have C7:=Lib.hid HI1
 have C8:=Lib.hid HE0
 have C9:=Lib.hid HE1
 have C10:=Lib.hid HE2
 have C11:=Lib.hid HE3
 have C12:=Lib.hid HE4
 have C13:=Lib.hid HE5
 have Z1:Hid (∀ {p:Prop} (h:p:=by ((fail_if_success (fail_if_success (with_reducible refine wp_loop_rounds 1 ?_)));clear F;(go_loopw [8] (fun iv wr=>∃ (d:Nat) (b:Bool) (m k:ByteArray),2≤d∧d≤D∧iv=.int .i64 (d:Int)∧Sb w [(w.heap.size,#[.bool b1,.string m1,.bool false,.string k1,.bool c1,.string n1,.bool false,.string l1,.bool s1],27),(w.heap.size+1,#[.bool b2,.string m2,.bool false,.string k2,.bool c2,.string n2,.bool false,.string l2,.bool s2],27),(w.heap.size+1+1,#[.bool b,.string m,.bool false,.string k],25)] [] wr) (fun iv _=>D-(intOf iv).toNat));(case atStart=>exact ⟨2,_,_,_,by omega,hD2,rfl,X.out⟩);(case round=>obtain ⟨d,b,m,k,h2,hD,rfl,hX⟩:=hrel;replace X:=Lib.hid hX;clear hX;replace F:=X.out.facts;simp only [Facts,cellsAt,List.take_succ_cons,List.take_zero,Nat.reduceAdd,and_true,List.set_cons_succ,List.set_cons_zero,List.cons_append,List.nil_append] at F;by_cases hlt:d<D;(obtain ⟨u0,u1,u2,u3,u4,u5,u6,v0,v1,v2,v3,v4,v5,v6,v7,v8,v9,k0,k1,k2,k3,k4,k5⟩:=HL.out d h2 hlt;have C14:=Lib.hid k0;have C15:=Lib.hid k1;have C16:=Lib.hid k2;have C17:=Lib.hid k3;have C18:=Lib.hid k4;have C19:=Lib.hid k5;clear k0 k1 k2 k3 k4 k5;have hd200:(d:Int)≤200:=Int.ofNat_le.2 (Nat.le_of_lt_succ (Nat.lt_of_lt_of_le hlt hD3));exact wk);(obtain rfl:d=D:=Nat.le_antisymm hD (Nat.le_of_not_lt hlt);skip;exact wk));all_goals exact wk)),p):=@fun _ h=>h
 have Z2:Hid (∀ {p:Prop} (h:p:=by ((go_roundw);(case rel=>first | exact ⟨d+1,_,_,_,Nat.le_succ_of_le h2,hlt,by go_num,X.out⟩ | exact ⟨d+1,_,_,_,Nat.le_succ_of_le h2,hlt,by go_num,X.out.pick [0,1,2] _ [] rfl (by decide) (by simp)⟩);(case measure=>(simp [intOf]<;>first | omega | exact Nat.sub_lt_sub_left hlt (Nat.lt_succ_self d)));all_goals exact wk)),p):=@fun _ h=>h
 have RS:=Lib.hid Tryz.results60
 clear HZ HI0 HS HF HO HA HI1 HE0 HE1 HE2 HE3 HE4 HE5 
 go_enter Tryz.func60,Tryz.ntmps60
 exact wk0):p:=h
theorem k12 {p:Prop} (h:p:=by
 go_simp
 (go_at_call 123;refine (HCN.out _ _ _ _ _ _ _ (X.out.rw (i:=7) rfl) (X.out.rw (i:=6) rfl)).mono ?_;rintro e u2 ⟨rfl,hb9⟩;have X:=Lib.hid (X.out.next hb9);clear hb9)
 try go_wp2_with fail
 refine hK.out _ _ (Or.inr (fun _=>⟨X.out.c3 (i:=1) rfl,X.out.c3 (i:=2) rfl⟩)) ?_
 clear hK K
 try simp only [Act.put,seti,set0,setS]
 refine wpLate_one (i:=8) (o:=⟨none,_,_,_,_,_⟩) (by kernel_rfl) rfl (fun K hK=>?_)
 obtain ⟨x0,x1,x2,x3⟩:=X.out.c4 (i:=0) rfl
 obtain ⟨y0,y1,y2,y3⟩:=X.out.f4 (i:=0) rfl
 have X:=Lib.hid (X.out.set4 (i:=0) rfl (.bool b3) (.string m3) (.bool false) (.string k3))
 go_simp
 refine hK.out _ _ (Or.inr (fun _=>⟨X.out.c3 (i:=1) rfl,X.out.c3 (i:=2) rfl⟩)) ?_
 clear hK K x0 x1 x2 x3 y0 y1 y2 y3
 try simp only [Act.put,seti,set0,setS]
 obtain ⟨W3,hV⟩:=wexi X.out
 rw [←hV] at X ⊢
 clear hV
 refine wpLate_done (by kernel_rfl) ?_ _
 go_wp2
 obtain ⟨p0,p1,p2,p3⟩:=X.out.c4 (i:=0) rfl
 exact bodyPost_ret (v:=.agg #[.bool b3,.string m3,.bool false,.string k3]) (by simp [results,Tryz.results77,go_sem,p0,p1,p2,p3]) rfl ⟨rfl,X.out.bel⟩):p:=h
theorem k13 {p:Prop} (h:p:=by
 have hcV:V.cell? ⟨w.heap.size,i,none⟩=some (.int .i64 (t:Int)):=(HBV.out.cell (p:=⟨w.heap.size,i,none⟩) HMQ.out.row.lt).trans hcq
 have hfV:V.frozen? ⟨w.heap.size,i,none⟩=false:=(HBV.out.frozen (p:=⟨w.heap.size,i,none⟩) HMQ.out.row.lt).trans hfq
 have HMN:=Lib.hid (fun W (h:W=V.drew)=>rminus A4 Ap n4 np c4 cp (T-t*Y) (s*Y) W (by omega) (by omega) (h ▸ (HMQ.out.r.below HBV.out).dg.drew) (h ▸ HPV.out.dg.drew) HSY.out)
 have e_add:IntKind.i64.wrap ((t:Int)+(s:Int))=(t:Int)+(s:Int):=IntWalk.i64_in _ (by omega)
 have hi1:(0:Int)≤(i:Int):=by omega
 have hi2:(i:Int)<(n:Int):=by omega
 have hGV:=Nat.lt_of_lt_of_le HMQ.out.row.lt HBV.out.size
 go_region_law (first
  | (go_simp;go_at_call 135;(with_reducible refine (HMN.out _ rfl).mono ?_);rintro e w6 ⟨A6,n6,c6,rfl,ht6,hb6,hf6⟩;have hc6:=(hb6.cell (p:=⟨w.heap.size,i,none⟩) hGV).trans hcV;have hz6:=(hb6.frozen (p:=⟨w.heap.size,i,none⟩) hGV).trans hfV))
 all_goals
  go_wp2
  go_roundg (T / Y-(t+s))
  case measure=>omega
  case rel =>
   obtain ⟨k1,k2⟩:=take_more HSY.out HMQ.out.le
   have k3:=(take_le H0.out).1 k1
   have hbV6:Below V.heap.size V w6:=((Below.refl _ V).drew).trans (hb6.mono (Nat.le_refl _))
   refine ⟨t+s,A6,n6,c6,by omega,rfl,⟨?_,fun a ha=>?_,?_,?_,k1⟩⟩
   · rw [←k2]
     exact ⟨ht6.dg.apart (fun a ha=>by have:=hf6 a ha;have:V.heap.size≤a.block:=this;omega) _ _,ht6.ln,ht6.cap,ht6.nil⟩
   · have h1:V.heap.size≤a.block:=hf6 a ha
     omega
   · have hr6:=(HMQ.out.row.of_block (HBV.out.block _ HMQ.out.row.lt)).of_block (hbV6.block _ hGV)
     refine (hr6.set i (.int .i64 ((t+s:Nat):Int))).congr fun j hj=>?_
     by_cases h1:j=i
     · rw [if_pos h1,if_pos h1]
     · rw [if_neg h1,if_neg h1,if_neg h1]
   · have h1:=HMQ.out.bel.trans (HBV.out.mono HMQ.out.bel.size)
     exact (h1.trans (hbV6.mono h1.size)).setCell (Nat.le_refl _) _):p:=h
theorem k14 {p:Prop} (h:p:=by
 have hD2:2≤D:=by omega
 have hD3:D≤201:=by omega
 have hD4:¬(D:Int)≤200:=by omega
 clear hDn
 have C1:=Lib.hid HZ
 have C2:=Lib.hid HI0
 have C3:=Lib.hid HS
 have C4:=Lib.hid HF
 have C5:=Lib.hid HO
 have C6:=Lib.hid HA
 have C7:=Lib.hid HI1
 have Z1:Hid (∀ {p:Prop} (h:p:=by ((fail_if_success (fail_if_success (with_reducible refine wp_loop_rounds 1 ?_)));clear F;(go_loopw [8] (fun iv wr=>∃ (d:Nat) (b:Bool) (m k:ByteArray),2≤d∧d≤D∧iv=.int .i64 (d:Int)∧Sb w [(w.heap.size,#[.bool b1,.string m1,.bool false,.string k1,.bool c1,.string n1,.bool false,.string l1,.bool s1],27),(w.heap.size+1,#[.bool b2,.string m2,.bool false,.string k2,.bool c2,.string n2,.bool false,.string l2,.bool s2],27),(w.heap.size+1+1,#[.bool b,.string m,.bool false,.string k],25)] [] wr) (fun iv _=>D-(intOf iv).toNat));(case atStart=>exact ⟨2,_,_,_,by omega,hD2,rfl,X.out⟩);(case round=>obtain ⟨d,b,m,k,h2,hD,rfl,hX⟩:=hrel;replace X:=Lib.hid hX;clear hX;replace F:=X.out.facts;simp only [Facts,cellsAt,List.take_succ_cons,List.take_zero,Nat.reduceAdd,and_true,List.set_cons_succ,List.set_cons_zero,List.cons_append,List.nil_append] at F;by_cases hlt:d<D;(obtain ⟨u0,u1,u2,u3,u4,u5,u6,v0,v1,v2,v3,v4,v5,v6,v7,v8,v9,k0,k1,k2,k3,k4,k5⟩:=HL.out d h2 hlt;have C8:=Lib.hid k0;have C9:=Lib.hid k1;have C10:=Lib.hid k2;have C11:=Lib.hid k3;have C12:=Lib.hid k4;have C13:=Lib.hid k5;clear k0 k1 k2 k3 k4 k5;have hd200:(d:Int)≤200:=Int.ofNat_le.2 (Nat.le_of_lt_succ (Nat.lt_of_lt_of_le hlt hD3));exact wk);(obtain rfl:d=D:=Nat.le_antisymm hD (Nat.le_of_not_lt hlt);skip;exact wk));all_goals exact wk)),p):=@fun _ h=>h
 have Z2:Hid (∀ {p:Prop} (h:p:=by ((go_roundw);(case rel=>first | exact ⟨d+1,_,_,_,Nat.le_succ_of_le h2,hlt,by go_num,X.out⟩ | exact ⟨d+1,_,_,_,Nat.le_succ_of_le h2,hlt,by go_num,X.out.pick [0,1,2] _ [] rfl (by decide) (by simp)⟩);(case measure=>(simp [intOf]<;>first | omega | exact Nat.sub_lt_sub_left hlt (Nat.lt_succ_self d)));all_goals exact wk)),p):=@fun _ h=>h
 have RS:=Lib.hid Tryz.results60
 clear HZ HI0 HS HF HO HA HI1 
 go_enter Tryz.func60,Tryz.ntmps60
 exact wk0):p:=h
theorem k15 {p:Prop} (h:p:=by
 cases hd
 cases ho
 go_simp
 exact HKt.out _ _ (Or.inr (Or.inl ⟨_,_,rfl,rfl,rfl⟩))):p:=h
theorem k16 {p:Prop} (h:p:=by
 have K4':=Lib.hid (((KV.out.next (Below.refl _ _).drew).set3 (.bool false) (.string (mag L))).set4 (.bool false) (.string ⟨#[1]⟩))
 obtain ⟨n0,n1,_,_⟩:=blk_cells V9.out.k
 have g0:=(HE.out _ KV.out.bel).o0
 have g1:=(HE.out _ KV.out.bel).o1
 obtain ⟨t0,t1,t2,t3⟩:=blk_cells KV.out.k3
 obtain ⟨t4,t5,t6,t7⟩:=blk_cells KV.out.k4
 clear V6 V7 V9
 go_wp2_with fail
 have K5':=Lib.hid (((KV.out.next (Below.refl _ _).drew).set4 (.bool false) (.string ⟨#[1]⟩)).set3 (.bool false) (.string (mag L)))
 go_region_law (fail)
 all_goals
  go_wp2
  exact bodyPost_ret (v:=.tuple #[.agg #[.bool false,.string (mag L)],.agg #[.bool false,.string ⟨#[1]⟩]]) (by simp [results,Tryz.results159,go_sem,t0,t1,t4,t5]) rfl ⟨L,1,by rw [mag_one],HSI.out,by first | exact K4'.out.bel | exact K5'.out.bel⟩):p:=h
theorem k17 {p:Prop} (h:p:=by
 have hne:g4≠g5:=fun e=>hR.ne 4 5 _ _ _ _ g4 (by decide) (by rfl) (by rfl) rfl rfl hg4 (by rw [e];exact hg5)
 have X:=Lib.hid (X.out.add2 hR.bel lg4 kg4 lg5 kg5 hne)
 have ha:=hR.act
 simp only [List.foldl_cons,List.foldl_nil,seti,set0,setS,vv0,vv1,vv2,vv3,hg4,hg5] at ha
 subst ha
 clear hR vv0 vv1 vv2 vv3 hg4 lg4 kg4 hg5 lg5 kg5 hne
 refine wpAny_of_late (S:=fun _=>True) (L:=[]) _ _ _ _ ?_
 refine wpLate_one (i:=6) (o:=⟨none,_,_,_,_,_⟩) (by kernel_rfl) rfl (fun K hK=>?_)
 obtain ⟨x0,x1⟩:=X.out.c2 (i:=3) rfl
 obtain ⟨y0,y1⟩:=X.out.f2 (i:=3) rfl
 have X:=Lib.hid (X.out.set2 (i:=3) rfl (.bool false) (.string mda))
 go_simp
 refine hK.out _ _ (Or.inr fun _=>trivial) ?_
 clear hK K x0 x1 y0 y1
 obtain ⟨W6,hV⟩:=wexi X.out
 rw [←hV] at X ⊢
 clear hV
 try simp only [Act.put]
 refine wpLate_one (i:=7) (o:=⟨none,_,_,_,_,_⟩) (by kernel_rfl) rfl (fun K hK=>?_)
 obtain ⟨x0,x1⟩:=X.out.c2 (i:=4) rfl
 obtain ⟨y0,y1⟩:=X.out.f2 (i:=4) rfl
 have X:=Lib.hid (X.out.set2 (i:=4) rfl (.bool false) (.string mdb))
 go_simp
 refine hK.out _ _ (Or.inr fun _=>trivial) ?_
 clear hK K x0 x1 y0 y1
 obtain ⟨W7,hV⟩:=wexi X.out
 rw [←hV] at X ⊢
 clear hV
 try simp only [Act.put]
 refine wpLate_done (by kernel_rfl) ?_ _
 go_wp2_with fail
 go_meet
 exact ⟨_,_,rfl,rfl,X.out.pick [0,1,2,3,4] _ [] rfl (by decide) (by simp)⟩):p:=h
theorem k18 {p:Prop} (h:p:=by
 obtain ⟨hp,hq,hint⟩:=HI.out
 obtain ⟨a0,a1,a2,a3⟩:=X.out.c4 (i:=0) rfl
 obtain ⟨c0,c1,c2,c3⟩:=X.out.c4 (i:=1) rfl
 by_cases hd1:p.den=1
 · have hd2:q.den≠1:=fun h=>hint ⟨hd1,h⟩
   have hk1:=hp.den1 hd1
   have hi1:=fun V=>isInteger_yes b1 m1 V
   rw [←hk1] at hi1
   have HI1:=Lib.hid hi1
   have HI2:=Lib.hid (fun V=>isInteger_no b2 m2 k2 (by rw [hq.den2 hd2];exact mag_no_nil q.den_nz) V)
   clear hd1 hd2 hp hq hint hi1 hk1
   go_wp2_with fail
   refine (HI1.out _).mono ?_
   rintro e w1 ⟨rfl,hb9⟩
   have X:=Lib.hid (X.out.next hb9)
   clear hb9
   clear a0 a1 a2 a3 c0 c1 c2 c3
   obtain ⟨a0,a1,a2,a3⟩:=X.out.c4 (i:=0) rfl
   obtain ⟨c0,c1,c2,c3⟩:=X.out.c4 (i:=1) rfl
   go_wp2_with fail
   refine (HI2.out _).mono ?_
   rintro e w2 ⟨rfl,hb9⟩
   have X:=Lib.hid (X.out.next hb9)
   clear hb9
   clear a0 a1 a2 a3 c0 c1 c2 c3
   go_wp2_with fail
   go_meet
   exact ⟨rfl,X.out⟩
 · have HI1:=Lib.hid (fun V=>isInteger_no b1 m1 k1 (by rw [hp.den2 hd1];exact mag_no_nil p.den_nz) V)
   clear hd1 hp hq hint
   go_wp2_with fail
   refine (HI1.out _).mono ?_
   rintro e w1 ⟨rfl,hb9⟩
   have X:=Lib.hid (X.out.next hb9)
   clear hb9
   clear a0 a1 a2 a3 c0 c1 c2 c3
   go_wp2_with fail
   go_meet
   exact ⟨rfl,X.out⟩):p:=h
theorem k19 {p:Prop} (h:p:=by
 by_cases hc:4294967296≤Rn
 · have hcd:decide ((4294967296:Int)≤(Rn:Int))=true:=by simp;omega
   go_wp2_with fail
   go_meet
   exact ⟨by rw [HBR.out hQ1 hc],rfl⟩
 · have hcd:decide ((4294967296:Int)≤(Rn:Int))=false:=by simp;omega
   go_wp2
   go_round
   case rel=>exact ⟨Qn,Rn,rfl,rfl,hne1,hq2,by omega,by omega,.inl hQ1⟩
   case measure=>simp [intOf]<;>omega):p:=h
theorem k20 {p:Prop} (h:p:=by
 have c00:=(blk_cells K4'.out.k0).1
 have c20:=(blk_cells K4'.out.k1).1
 go_wp2_with fail
 refine (pack_any _ Aq nq cq q _ (by omega) HMQ.out.toNg).mono fun e w7 h7=>?_
 obtain ⟨b7,m7,HB7,rfl,hb7⟩:=h7.form
 have HN7:=Lib.hid (Nm.below HMR.out hb7)
 have hs7:=hb7.size
 have K7:=Lib.hid (K4'.out.next hb7 (by have:=K4'.out.sz;omega))
 clear h7 hb7 c00 c20
 go_wp2_with fail
 refine (pack_any _ Ar nr cr r _ (by omega) HN7.out.toNg).mono fun e w8 h8=>?_
 obtain ⟨b8,m8,HB8,rfl,hb8⟩:=h8.form
 have K8:=Lib.hid (K7.out.next hb8 (by have:=K7.out.sz;omega))
 obtain ⟨p0,p1,p2,p3⟩:=blk_cells K8.out.k2
 obtain ⟨q0,q1,q2,q3⟩:=blk_cells K8.out.k3
 have HF1:=Lib.hid (show enc (_ / _)=.agg #[.bool b7,.string m7] by rw [HD1.out,←HB7.out];(rw [if_neg hnr2];cases nb<;>rfl))
 have HF2:=Lib.hid (show enc (_%_)=.agg #[.bool b8,.string m8] by rw [HD2.out,←HB8.out];(rw [if_neg hnr2];rfl))
 clear h8 hb8
 go_wp2
 exact bodyPost_ret (v:=.tuple #[.agg #[.bool b7,.string m7],.agg #[.bool b8,.string m8],.int .i64 0]) (by simp [results,Tryz.results100,go_sem,p0,p1,q0,q1]) rfl (HR.out _ _ _ _ _ HF1 HF2 (K8.out.stored _ _ _ _))):p:=h
theorem k21 {p:Prop} (h:p:=by
 have hx:(s[s.size-1-k]'(by omega)).toNat=dig s k:=by unfold dig;rw [dif_pos hlt]
 have hd:=dig_lt s k
 go_wp2_with (at_builtin;refine wpList_append_own _ rfl _ _ 102 rfl (w.heap.size+1) 3 i0 (.int .i64 0) 1 8 Tryz.underlying102 hi hz0 hz1 hz2 rfl (by decide) _ _ _ rfl (hown.alloc _) ⟨wr.heap.size,0,none⟩ 1 1 [.int .i64 (dig s k:Int)] rfl rfl ?c1 ?c2 ?c3 ?c4 ?c5 ?_)
 case c1 =>
  intro j u hj
  match j,hj with
  | 0,hj=>simp at hj;subst hj;simp [Addr.add]
 case c2=>intro u hu;simp at hu;subst hu;rfl
 case c3=>unfold maxLen;omega
 case c4=>omega
 case c5=>simp;omega
 intro v' w1 hown' hgrow _
 have hown2:w1.ownsRow (w.heap.size+1) 3 1 v' (k+1) (nums .i64 (dig s) (k+1)):=by rw [nums_succ];exact hown'
 have hb1:Below (w.heap.size+1) wr w1:=((Below.refl _ _).alloc hsz _).grown hgrow (by simp;omega) (fun g hg=>((hown.lt) g hg).1)
 have hcell1:w1.cell? ⟨w.heap.size,1,none⟩=some (.string s):=(hb1.cell (p:=⟨w.heap.size,1,none⟩) (by simp)).trans hcell
 have hsz1:=hb1.size
 clear hgrow hown' hown hcell
 go_wp2
 go_roundw
 case rel=>exact ⟨k+1,by omega,by go_num,hown2,hcell1,hnx.trans (hb1.mono (by omega)),by omega⟩
 case measure=>simp [intOf];omega):p:=h
theorem k22 {p:Prop} (h:p:=by
 obtain ⟨a0,a1,a2,a3⟩:=X.out.c4 (i:=0) rfl
 go_enter Tryz.func57,Tryz.ntmps57
 go_wp2_with fail
 refine (HC1.out _).mono ?_
 rintro e w1 ⟨rfl,hb9⟩
 have X:=Lib.hid (X.out.next hb9)
 clear hb9
 clear a0 a1 a2 a3
 obtain ⟨a0,a1,a2,a3⟩:=X.out.c4 (i:=0) rfl
 go_wp2_with fail
 refine (HC2.out _).mono ?_
 rintro e w2 ⟨rfl,hb9⟩
 have X:=Lib.hid (X.out.next hb9)
 clear hb9
 clear a0 a1 a2 a3
 obtain ⟨a0,a1,a2,a3⟩:=X.out.c4 (i:=0) rfl
 go_wp2
 go_ret
 exact ⟨rfl,X.out.bel⟩):p:=h
theorem k23 {p:Prop} (h:p:=by
 try go_wp2_with fail
 exact HKt.out _ _ (Or.inr (Or.inr ⟨_,rfl,⟨A9,n9,c9,B9,m9,d9,rfl,hT9,hU9⟩,hb9⟩))):p:=h
theorem k24 {p:Prop} (h:p:=by
 clear hn5
 obtain ⟨f0,f1,f2⟩:=X.out.c3 (i:=2) rfl
 go_wp2_with fail
 refine (HWH.out _ _ _ _ T4.out).mono ?_
 rintro e u3 ⟨rfl,hb9⟩
 have X:=Lib.hid (X.out.next hb9)
 clear hb9 f0 f1 f2
 go_upto_region 4 with fail
 have X:=Lib.hid (X.out.new #[.bool bz,.string mz,.bool false,.string ⟨#[]⟩] 25)
 obtain ⟨gO,hgO⟩:∃ g,g=u3.heap.size:=⟨_,rfl⟩
 rw [←hgO] at X ⊢
 obtain ⟨W2,hV⟩:=wexi X.out
 rw [←hV] at X ⊢
 clear hV
 clear hgO
 obtain ⟨f0,f1,f2⟩:=X.out.c3 (i:=2) rfl
 obtain ⟨o0,o1,o2,o3⟩:=X.out.c4 (i:=3) rfl
 obtain ⟨x0,x1,x2,x3⟩:=X.out.c4 (i:=1) rfl
 obtain ⟨y0,y1,y2,y3⟩:=X.out.f4 (i:=1) rfl
 go_wp2
 have X:=Lib.hid (X.out.set4 (i:=1) rfl (.bool bz) (.string mz) (.bool false) (.string ⟨#[]⟩))
 obtain ⟨p0,p1,p2,p3⟩:=X.out.c4 (i:=1) rfl
 exact bodyPost_ret (v:=.agg #[.bool bz,.string mz,.bool false,.string ⟨#[]⟩]) (by simp [results,Tryz.results106,go_sem,p0,p1,p2,p3]) rfl ⟨rfl,X.out.bel⟩):p:=h
theorem k25 {p:Prop} (h:p:=by
 cases hd
 cases ho
 obtain ⟨x00,x01,x02,x03⟩:=X.out.c4 (i:=0) rfl
 obtain ⟨x10,x11,x12,x13⟩:=X.out.c4 (i:=1) rfl
 obtain ⟨x50,x51⟩:=X.out.c2 (i:=5) rfl
 obtain ⟨x60,x61⟩:=X.out.c2 (i:=6) rfl
 go_simp
 exact HKt.out _ _ (Or.inl ⟨rfl,Below.refl _ _⟩)):p:=h
theorem k26 {p:Prop} (h:p:=by
 try go_wp2_with fail
 exact HKt.out _ _ (Or.inl ⟨rfl,hb9⟩)):p:=h
theorem k27 {p:Prop} (h:p:=by
 obtain ⟨k1,k2,_⟩:=up_spec ha n
 have k3:=up_le ha n
 have k4:B*B*(up a n*up a n)≤B*B*(a+(A*A-B*B*a)*v / 2):=Rat.mul_le_mul_of_nonneg_left (Rat.le_of_lt hn) (Rat.le_of_lt hBB)
 have k5:B*B*(a+(A*A-B*B*a)*v / 2)=B*B*a+(A*A-B*B*a) / 2:=by grind
 have k6:(A*A-B*B*a) / 2≤(A+B*up a n)*(A-B*up a n):=by grind
 have k7:0<A-B*up a n:=by have:=Rat.mul_pos (show 0 < -B by grind) k1;grind
 have k8:A-B*up a n≤A+-B*(a+2):=by have:=Rat.mul_le_mul_of_nonneg_left (Rat.le_of_lt k3) (show 0≤-B by grind);grind
 by_cases k9:(A*A-B*B*a)*w / 2≤A+B*up a n
 · exact k9
 · exfalso
   have l1:=mul_lt (show A+B*up a n<(A*A-B*B*a)*w / 2 by grind) k7
   have l2:=Rat.mul_le_mul_of_nonneg_left k8 (show 0≤(A*A-B*B*a)*w / 2 by grind)
   have l3:(A*A-B*B*a)*w / 2*(A+-B*(a+2))=(A*A-B*B*a) / 2:=by grind
   grind):p:=h
theorem k28 {p:Prop} (h:p:=by
 cases hd
 cases ho
 obtain ⟨x30,x31⟩:=X.out.c2 (i:=3) rfl
 obtain ⟨x40,x41⟩:=X.out.c2 (i:=4) rfl
 obtain ⟨x50,x51⟩:=X.out.c2 (i:=5) rfl
 go_simp
 exact HKt.out _ _ (Or.inl ⟨rfl,Below.refl _ _⟩)):p:=h
theorem k29 {p:Prop} (h:p:=by
 obtain ⟨k1,k2,_⟩:=up_spec ha n
 have k3:=up_le ha n
 have hBB:0<B*B:=sq_pos' (by grind)
 have k4:B*B*a≤B*B*(up a n*up a n):=Rat.mul_le_mul_of_nonneg_left (Rat.le_of_lt k2) (Rat.le_of_lt hBB)
 have k6:B*B*a-A*A≤(A+B*up a n)*(B*up a n-A):=by grind
 have k7:0<B*up a n-A:=by have:=Rat.mul_pos h2 k1;grind
 have k8:B*up a n-A≤B*(a+2)-A:=by have:=Rat.mul_le_mul_of_nonneg_left (Rat.le_of_lt k3) (Rat.le_of_lt h2);grind
 by_cases k9:(B*B*a-A*A)*w≤A+B*up a n
 · exact k9
 · exfalso
   have l1:=mul_lt (show A+B*up a n<(B*B*a-A*A)*w by grind) k7
   have l2:=Rat.mul_le_mul_of_nonneg_left k8 (Rat.le_of_lt hDw)
   have l3:(B*B*a-A*A)*w*(B*(a+2)-A)=B*B*a-A*A:=by grind
   grind):p:=h
theorem k30 {p:Prop} (h:p:=by
 refine wpLate_done (by kernel_rfl) ?_ _
 go_wp2_with fail
 go_meet
 exact ⟨_,_,rfl,rfl,X.out.pick [0,1,2,3,4] _ [] rfl (by decide) (by simp)⟩):p:=h
theorem k31 {p:Prop} (h:p:=by
 rw [←hV] at X ⊢
 clear hV
 refine wpLate_done (by kernel_rfl) ?_ _
 go_wp2_with fail
 go_meet
 exact ⟨_,_,rfl,rfl,X.out.pick [0,1,2,4,3] _ [] rfl (by decide) (by simp)⟩):p:=h
theorem k32 {p:Prop} (h:p:=by
 cases hd
 cases ho
 go_simp
 exact HKt.out _ _ (Or.inl ⟨rfl,Below.refl _ _⟩)):p:=h
theorem k33 {p:Prop} (h:p:=by
 rintro e w6 ⟨rfl,hb6⟩
 rw [(show enc (sgn false (E':Nat))=.agg #[.bool false,.string (mag E')] from enc_nat' E')]
 have K6:=Lib.hid ((K3.out.next hb5).next hb6)
 obtain ⟨s0,s1,s2,s3⟩:=blk4 K6.out.k2
 obtain ⟨f0,f1,f2,f3⟩:=fro4 K6.out.k2
 clear hb5 hb6 r0 r1 r2 hc0
 go_wp2
 exact bodyPost_ret (v:=.agg #[.bool bn,.string mn,.bool false,.string (mag E')]) (by simp [results,Tryz.results123,go_sem,s0,s1,s2,s3]) rfl ⟨bn,mn,_,rfl,HFIN.out bn mn _ HBN.out (by unfold dm;rw [if_neg HE1.out]),below_set4 K6.out.bel (by omega) _ _ _ _⟩):p:=h
theorem k34 {p:Prop} (h:p:=by
 go_wp2
 go_roundw
 case rel =>
  refine ⟨k+1,by omega,by go_num,by rw [←HS1.out];go_num,(World.rowIs.set (w:=wr.drewN nq) HR.out (i+k) _).congr fun j hj=>?_,(below_draws hbl nq).setCell (Nat.le_refl _) _⟩
  by_cases e:j=i+k
  · rw [if_pos e,if_pos (by omega),e,Nat.add_sub_cancel_left,←HS2.out];go_num
  · rw [if_neg e]
    by_cases e2:i≤j∧j<i+k
    · rw [if_pos e2,if_pos (by omega)]
    · rw [if_neg e2,if_neg (by omega)]
 case measure=>simp [intOf]<;>omega):p:=h
theorem k35 {p:Prop} (h:p:=by
 by_cases hd:p.den=1
 · rw [h.den1 hd];exact Nat.zero_le _
 · rw [h.den2 hd];exact s2):p:=h
theorem k36 {p:Prop} (h:p:=by
 obtain ⟨b4,m4,k4,h4⟩:=Rq.some_ (q*q)
 have hn:=hq.ne hq0
 obtain ⟨e1,e2⟩:=str_ne hn
 have e3:=empty_no (size_pos hn)
 have z4:=zq.mul zq
 have C1:=kn w ((root_no_z hr (zr.up (by omega)) hs).2)
 have C2:=kn w (zero_any)
 have C3:=kn w (rmul_z hq hq h4 (zq.up (by omega)) (zq.up (by omega)))
 have C4:=kn w (rmul_z h4 hr h5 (z4.up (by omega)) (zr.up (by omega)))
 have C5:=kn w (rsign_z hq)
 have RS:=Lib.hid Tryz.results29
 clear hq hq0 hr hs h5 zq zr h4 hn z4
 go_enter Tryz.func29,Tryz.ntmps29
 exact wk0):p:=h
theorem k37 {p:Prop} (h:p:=by
 rw [hbm]
 have HBM:=Lib.hid hbm
 clear hbm
 obtain ⟨q0,q1,f0,f1⟩:=res2 (g:=w.heap.size) (by exact heap_one _ _) hb1 (by simp)
 go_wp2
 refine bodyPost_ret (v:=.agg #[.bool bz,.string mz]) (by simp [results,Tryz.results99,go_sem,q0,q1]) rfl ⟨by rw [←HBM.out];rfl,?_⟩
 have h0:Below w.heap.size w (w.alloc (.cells #[.bool false,.string ⟨#[]⟩] 23)):=(Below.refl _ _).alloc (Nat.le_refl _) _
 exact ((h0.trans (hb1.mono h0.size)).setCell (by simp) _).setCell (by simp) _):p:=h
theorem k38 {p:Prop} (h:p:=by
 rw [←hV] at X ⊢
 clear hV
 obtain ⟨x0,x1,x2,x3⟩:=X.out.c4 (i:=1) rfl
 obtain ⟨y0,y1,y2,y3⟩:=X.out.f4 (i:=1) rfl
 go_wp2
 have X:=Lib.hid (X.out.set4 (i:=1) rfl (.bool false) (.string ⟨#[]⟩) (.bool false) (.string ⟨#[]⟩))
 obtain ⟨p0,p1,p2,p3⟩:=X.out.c4 (i:=1) rfl
 exact bodyPost_ret (v:=.tuple #[.agg #[.bool false,.string ⟨#[]⟩,.bool false,.string ⟨#[]⟩],.bool false]) (by simp [results,Tryz.results72,go_sem,p0,p1,p2,p3]) rfl ⟨rfl,X.out.bel⟩):p:=h
theorem k39 {p:Prop} (h:p:=by
 go_enter Tryz.func208,Tryz.ntmps208
 go_wp2_with fail
 refine (HN.out _ _).mono ?_
 rintro e w' ⟨rfl,rfl⟩
 go_wp2_with fail
 refine (HN.out _ _).mono ?_
 rintro e w' ⟨rfl,rfl⟩
 go_wp2
 go_ret
 exact ⟨rfl,rfl⟩):p:=h
theorem k40 {p:Prop} (h:p:=by
 intro v' w1 hown' hgrow _
 have hown2:=own_next hown' (by rw [HS2.out,if_pos hneg])
 have hb1:Below w.heap.size wr w1:=((Below.refl _ _).alloc hnx.size _).grown hgrow (by simp;exact Nat.le_succ_of_le hnx.size) (fun g hg=>((hown.lt) g hg).1)
 clear hgrow hown' hown
 go_wp2
 go_roundw
 case rel=>exact ⟨k+1,by omega,by go_num,by rw [HS1.out,if_pos hneg];rfl,hown2,hnx.trans hb1⟩
 case measure=>simp [intOf]<;>omega):p:=h
theorem k41 {p:Prop} (h:p:=by
 intro v' w1 hown' hgrow _
 have hown2:=own_next hown' (by rw [HS2.out,if_neg hneg])
 have hb1:Below w.heap.size wr w1:=((Below.refl _ _).alloc hnx.size _).grown hgrow (by simp;exact Nat.le_succ_of_le hnx.size) (fun g hg=>((hown.lt) g hg).1)
 clear hgrow hown' hown
 go_wp2
 go_roundw
 case rel=>exact ⟨k+1,by omega,by go_num,by rw [HS1.out,if_neg hneg];rfl,hown2,hnx.trans hb1⟩
 case measure=>simp [intOf]<;>omega):p:=h
theorem k42 {p:Prop} (h:p:=by
 go_wp2
 exact bodyPost_ret (v:=.agg #[.int .u64 (x0:Int),.int .u64 (y0:Int),.int .u64 (x1:Int),.int .u64 (y1:Int),.bool o]) (by simp [results,Tryz.results224,go_sem,r0,r1,r2,r3,r4]) rfl ⟨x0,y0,x1,y1,o,rfl,bx0,by0,bx1,by1,hend.out,((((HBL.out.setCell (by show _≤w.heap.size;omega) _).setCell (by show _≤w.heap.size;omega) _).setCell (by show _≤w.heap.size;omega) _).setCell (by show _≤w.heap.size;omega) _).setCell (by show _≤w.heap.size;omega) _⟩):p:=h
theorem k43 {p:Prop} (h:p:=by
 by_cases hd:x.den=1
 · rw [h.den1 hd];exact Nat.zero_le _
 · rw [h.den2 hd];exact hs):p:=h
theorem k44 {p:Prop} (h:p:=by
 go_wp2
 go_roundw
 case rel =>
  refine ⟨j+1,by omega,by go_num,(hrow.set (k-1-j) _).congr fun m hm=>?_,hbl.setCell (by simp) _⟩
  by_cases e:m=k-1-j
  · rw [if_pos e,if_pos (by omega),show k-1-m=j by omega]
  · rw [if_neg e]
    by_cases e2:k-1-m<j
    · rw [if_pos e2,if_pos (by omega)]
    · rw [if_neg e2,if_neg (by omega)]
 case measure=>simp [intOf];omega):p:=h
theorem k45 {p:Prop} (h:p:=by
 rintro e w3 ⟨b4,m4,k4,rfl,hq4,hb3⟩
 obtain ⟨rfl,rfl,rfl⟩:=hr'.inj hq4
 exact ⟨rfl,hb3⟩):p:=h
theorem k46 {p:Prop} (h:p:=by
 by_cases e2:j<k
 · rw [if_pos e2,if_pos (by omega)]
 · rw [if_neg e2,if_neg (by omega)]):p:=h
theorem k47 {p:Prop} (h:p:=by
 have hc2:¬0≤c:=by omega
 clear hc
 have C1:=Lib.hid HK
 have C2:=Lib.hid HS1
 have C3:=Lib.hid HS2
 have C4:=Lib.hid HC
 have C5:=Lib.hid HB
 have C6:=Lib.hid HK2
 have C7:=Lib.hid HI
 have C8:=Lib.hid HO
 have C9:=Lib.hid HH
 have C10:=Lib.hid HD
 have C11:=Lib.hid HG
 clear HK HS1 HS2 HC HB HK2 HI HO HH HD HG 
 go_enter Tryz.func11,Tryz.ntmps11
 exact wk0):p:=h
theorem k48 {p:Prop} (h:p:=by
 obtain ⟨p0,p1,f0,f1⟩:=blk_cells ((hb2.block _ (by have:=HL.out.sz;omega)).trans HL.out.res)
 have HB:=Lib.hid (HL.out.bel.trans (hb2.mono HL.out.bel.size))
 clear hb2
 go_wp2
 exact bodyPost_ret (v:=.agg #[.bool bz,.string mz]) (by simp [results,Tryz.results74,go_sem,p0,p1]) rfl ⟨by rw [HBZ.out],below_set2 HB.out (Nat.le_refl _) _ _⟩):p:=h
theorem k49 {p:Prop} (h:p:=by
 have RS:=Lib.hid Tryz.results60
 clear HZ HI0 HS HF HO HA HI1 
 go_enter Tryz.func60,Tryz.ntmps60
 exact wk0):p:=h
theorem k50 {p:Prop} (h:p:=by
 exact ((HBW.out.trans (HALL.out.mono (by omega))).setCell (by simp<;>omega) _).setCell (by simp<;>omega) _):p:=h
theorem k51 {p:Prop} (h:p:=by
 have h:=HE.out
 obtain ⟨m,hm⟩:∃ m,Q=m+1:=⟨Q-1,by omega⟩
 show _=_
 rw [hm,Nat.add_sub_cancel]
 rw [hm,Nat.add_mul] at h
 omega):p:=h
theorem k52 {p:Prop} (h:p:=by
 go_wp2
 refine bodyPost_ret (v:=.agg #[.bool bz,.string mz]) (by simp [results,Tryz.results101,go_sem,p0,p1]) rfl ⟨by rw [←HZ.out],K3.out.stored _ _⟩):p:=h
theorem k53 {p:Prop} (h:p:=by
 go_wp2
 refine bodyPost_ret (v:=.agg #[.bool bz,.string mz]) (by simp [results,Tryz.results98,go_sem,p0,p1]) rfl ⟨by rw [←HZ.out],K3.out.stored _ _⟩):p:=h
theorem k54 {p:Prop} (h:p:=by
 obtain ⟨a0,a1,a2,a3⟩:=X.out.c4 (i:=1) rfl
 go_wp2_with fail
 refine (HD.out _ (HE.out _ X.out.bel)).mono ?_
 rintro e u2 ⟨rfl,hb9⟩
 have X:=Lib.hid (X.out.next hb9)
 clear hb9 a0 a1 a2 a3
 have X:=Lib.hid (X.out.new #[.bool false,.string mq] 23)
 go_wp2_with fail
 go_meet
 exact ⟨_,rfl,X.out⟩):p:=h
theorem k55 {p:Prop} (h:p:=by
 have e1:=hsq n
 have e2:=(up_spec ha n)
 have e6:=(up_spec hb n)
 have e4:=row_bound ha d hs n
 have e5:=up_le hb n
 have:=gap (X:=-(d+(s:Rat)*up a n)) (Y:=up b n) (δ:=δ / 2) (by grind) (by grind) (by grind) (by grind) (by grind) ew
 show d+(s:Rat)*up a n-(-1:Rat)*up b n≤_
 grind):p:=h
theorem k56 {p:Prop} (h:p:=by
 cases hd
 cases ho
 obtain ⟨x00,x01,x02,x03⟩:=X.out.c4 (i:=0) rfl
 obtain ⟨x10,x11,x12,x13⟩:=X.out.c4 (i:=1) rfl
 obtain ⟨x30,x31⟩:=X.out.c2 (i:=3) rfl
 obtain ⟨x40,x41⟩:=X.out.c2 (i:=4) rfl
 go_simp
 exact HKt.out _ _ (Or.inl ⟨rfl,Below.refl _ _⟩)):p:=h
theorem k57 {p:Prop} (h:p:=by
 rintro e w' ⟨z,hz,rfl,hnm,rfl⟩
 have HNM:=Lib.hid hnm
 clear hnm
 go_wp2
 go_ret
 refine ⟨_,z,cr,hz,rfl,HNM.out,HGZ.out,?_⟩
 rcases HGB.out with h | h
 · exact .inl (by rw [h];rfl)
 · exact .inr (fun z hz=>by simp [Value.ownBlock] at hz;omega)):p:=h
theorem k58 {p:Prop} (h:p:=by
 go_wp2_with fail
 refine (HM.out _).mono ?_
 rintro e w' ⟨rfl,rfl⟩
 go_wp2
 go_ret
 exact ⟨by rw [←HF.out];rfl,hdr⟩):p:=h
theorem k59 {p:Prop} (h:p:=by
 have e1:=hsq n
 have e2:=(up_spec hb n)
 have e4:=row_bound ha d hs n
 have e5:=up_le hb n
 have:=gap (X:=up b n) (Y:=d+(s:Rat)*up a n) (δ:=δ / 2) (by grind) (by grind) (by grind) (by grind) (by grind) ew
 show d+(s:Rat)*up a n-(1:Rat)*up b n≤_
 grind):p:=h
theorem k60 {p:Prop} (h:p:=by
 by_cases h:d=0
 · rw [h];grind
 · exact Rat.le_of_lt (sq_pos' h)):p:=h
theorem k61 {p:Prop} (h:p:=by
 cases na
 all_goals
  go_enter Tryz.func107,Tryz.ntmps107
  go_wp2
  refine bodyPost_ret (v:=.agg #[.bool _,.string a]) (by simp [results,Tryz.results107,go_sem];rfl) rfl ⟨?_,((Below.refl _ _).alloc (Nat.le_refl _) _).alloc (by simp) _⟩
  simp [h]):p:=h
theorem k62 {p:Prop} (h:p:=by
 unfold St at h ⊢
 simp [World.setCell,Array.getElem?_modify,h]):p:=h
theorem k63 {p:Prop} (h:p:=by
 rw [hP] at v3 ht2
 rw [hM2] at ht2 v5
 rw [hM] at v4 v5
 have htd:decide ((M2:Int)<(P:Int))=false:=by simp;omega
 have HF:=Lib.hid hfin
 clear hP hM hM2 hpb ht hfin
 go_wp2_with fail
 go_meet
 exact ⟨by rw [HF.out],rfl⟩):p:=h
theorem k64 {p:Prop} (h:p:=by
 go_wp2
 refine bodyPost_ret (v:=.agg #[.bool bz,.string mz]) (by simp [results,Tryz.results126,go_sem,p0,p1]) rfl ⟨by rw [HZ.out],(HALL.out.setCell (by show w.heap.size≤w.heap.size+2;omega) _).setCell (by show w.heap.size≤w.heap.size+2;omega) _⟩):p:=h
theorem k65 {p:Prop} (h:p:=by
 have C1:=Lib.hid HO
 have C2:=Lib.hid HC
 have C3:=Lib.hid HD
 clear HO HC HD 
 go_enter Tryz.func58,Tryz.ntmps58
 exact wk0):p:=h
theorem k66 {p:Prop} (h:p:=by
 have:=(sg2_ns ha na e).2
 rcases hs with rfl | rfl
 · exact absurd this (by decide)
 · exact absurd this (by decide)):p:=h
theorem k67 {p:Prop} (h:p:=by
 rcases sgq_three (a-b) with ⟨l,el⟩ | ⟨l,el⟩ | ⟨l,el⟩<;>rw [el]<;>rcases sgq_three f with ⟨m,em⟩ | ⟨m,em⟩ | ⟨m,em⟩<;>rw [em]<;>rcases sgq_three (4*(a*b)-g*g) with ⟨n,en⟩ | ⟨n,en⟩ | ⟨n,en⟩<;>rw [en]<;>grind):p:=h
theorem k68 {p:Prop} (h:p:=by
 rcases key hi with ⟨h1,h2⟩ | ⟨h1,h2⟩<;>rcases key hj with ⟨h3,h4⟩ | ⟨h3,h4⟩
 · exact h.ne i j x y h2 h4 hij
 · have:=h.lt (List.mem_of_getElem? h2);omega
 · have:=h.lt (List.mem_of_getElem? h4);omega
 · omega):p:=h
theorem k69 {p:Prop} (h:p:=by
 exact ⟨k1,k2,k3,by simp,(((Below.refl _ _).alloc (Nat.le_refl _) _).alloc (by simp) _).alloc (by simp<;>omega) _⟩):p:=h
theorem k70 {p:Prop} (h:p:=by
 by_cases e:j=o+k
 · rw [if_pos e,if_pos (by omega),e,Nat.add_sub_cancel_left,HDIG.out]
 · rw [if_neg e]
   by_cases e2:o≤j∧j<o+k
   · rw [if_pos e2,if_pos (by omega)]
   · rw [if_neg e2,if_neg (by omega)]):p:=h
theorem k71 {p:Prop} (h:p:=by
 rcases sgq_three (2*d) with ⟨l,g⟩ | ⟨l,g⟩ | ⟨l,g⟩<;>rcases sgq_three f with ⟨k,e⟩ | ⟨k,e⟩ | ⟨k,e⟩<;>rcases sgq_three (f*f-2*d*(2*d)*a) with ⟨m,i⟩ | ⟨m,i⟩ | ⟨m,i⟩<;>rw [g,e,i]<;>grind):p:=h
theorem k72 {p:Prop} (h:p:=by
 clear hb1 hb2 p0 p1 p2 p3 p4 p5 p6 p7 q0 q1 q2 q3 q4 q5 q6 q7
 go_wp2_with fail
 refine (HCI.out _).mono ?_
 rintro e w3 ⟨rfl,rfl⟩
 go_wp2
 go_ret
 exact ⟨by rw [HCZ.out];rfl,K2.out.bel⟩):p:=h
theorem k73 {p:Prop} (h:p:=by
 obtain ⟨u0,u1,u2,u3,u4,u5,u6,v0,v1,v2,v3,v4,v5,v6,v7,v8,v9,-,HR⟩:=round_f okx oky zx zy hx hy (d:=d) (by omega) (by omega)
 rw [hno d p1 p2] at HR
 exact ⟨_,_,_,_,_,_,_,_,_,_,_,_,_,_,_,_,_,HR w⟩):p:=h
theorem k74 {p:Prop} (h:p:=by
 exact wpOp_step ho (fun K' hK=>h K' (fun a w hS hW=>hK a w ⟨hS,hW⟩))):p:=h
theorem k75 {p:Prop} (h:p:=by
 go_enter Tryz.func49,Tryz.ntmps49
 go_wp2
 exact bodyPost_ret (v:=.agg #[.bool false,.string m2,.bool false,.string k]) (by simp [results,Tryz.results49,go_sem]) rfl ⟨rfl,(((Sb.start w).new _ _).new _ _).bel⟩):p:=h
theorem k76 {p:Prop} (h:p:=by
 rcases sgq_three A with ⟨k,e⟩ | ⟨k,e⟩ | ⟨k,e⟩<;>rcases sgq_three B with ⟨l,f⟩ | ⟨l,f⟩ | ⟨l,f⟩<;>rcases sgq_three (A*A-B*B*a) with ⟨m,g⟩ | ⟨m,g⟩ | ⟨m,g⟩<;>rw [e,f,g] at h<;>grind):p:=h
theorem k77 {p:Prop} (h:p:=by
 rintro e w' ⟨rfl,rfl⟩
 go_wp2_with fail
 refine HC.out.mono ?_
 rintro e w' ⟨rfl,q,rfl⟩
 go_wp2
 go_ret2
 exact ⟨none,0,0,A,n,c,rfl,tr_nil _,HX.out.drewN _,below_draws (Below.refl _ _) _⟩):p:=h
theorem k78 {p:Prop} (h:p:=by
 replace F:=X.out.facts
 simp only [Facts,cellsAt,List.take_succ_cons,List.take_zero,Nat.reduceAdd,and_true,List.set_cons_succ,List.set_cons_zero,List.cons_append,List.nil_append] at F
 exact wk):p:=h
theorem k79 {p:Prop} (h:p:=by
 have hs:=h.sz
 refine ⟨(hb.block _ (by omega)).trans h.k0,(hb.block _ (by omega)).trans h.k1,(hb.block _ (by omega)).trans h.k2,?_,h.bel.trans (hb.mono h.bel.size)⟩
 have:=hb.size
 omega):p:=h
theorem k80 {p:Prop} (h:p:=by
 by_cases h:Blw c d oc L 1
 · exact ⟨true,by simp [h]⟩
 · exact ⟨false,by simp [h]⟩):p:=h
theorem k81 {p:Prop} (h:p:=by
 clear hgrow hown' hown hne htm
 have htd:=HTD.out
 go_wp2
 go_roundw
 case rel=>exact ⟨k+1,by rw [←HQ2.out,HS.out],HL2.out⟩
 case measure=>simp [intOf];omega):p:=h
theorem k82 {p:Prop} (h:p:=by
 rcases hx.form with ⟨_,h2⟩ | ⟨h2,_⟩
 · rcases hy.form with ⟨_,h3⟩ | ⟨h3,_⟩
   · exact h1 ⟨by rw [hx0,hy0],by rw [h2,h3]⟩
   · grind
 · grind):p:=h
theorem k83 {p:Prop} (h:p:=by
 refine ⟨?_,?_,?_,?_⟩<;>simp [World.cell?,World.frozen?,h]):p:=h
theorem k84 {p:Prop} (h:p:=by
 go_ret
 refine ⟨congrArg (fun z=>Ending.returned (.int .i64 z)) ?_,(Below.refl _ _).alloc (Nat.le_refl _) _⟩
 unfold checkV
 rw [HV.out]
 simp at ht
 simp [ht]):p:=h
theorem k85 {p:Prop} (h:p:=by
 clear h hs ht
 go_enter Tryz.func175,Tryz.ntmps175
 go_wp2_with fail
 refine (HC.out _).mono ?_
 rintro e w' ⟨rfl,rfl⟩
 go_wp2
 go_ret
 exact ⟨rfl,rfl⟩):p:=h
theorem k86 {p:Prop} (h:p:=by
 intro e
 rw [←hg] at e
 injection e with e
 injection e with e
 injection e with e
 have:=(Array.getElem?_eq_some_iff.1 h4).1
 omega):p:=h
theorem k87 {p:Prop} (h:p:=by
 exfalso
 rcases hy.form with ⟨h3,h4⟩ | ⟨h3,_⟩
 · exact h ⟨by rw [h1,h3],by rw [h2,h4]⟩
 · rw [hy0] at h3;exact absurd h3 (by decide)):p:=h
theorem k88 {p:Prop} (h:p:=by
 have e:(!na==nb)=(na != nb):=by cases na<;>cases nb<;>rfl
 first | rw [e] | rfl):p:=h
theorem k89 {p:Prop} (h:p:=by
 refine ⟨0,Nat.zero_le _,rfl,(World.rowIs_made w (.int .i64 0) (n+m+1) 3).congr fun j hj=>?_,(Below.refl _ _).alloc (Nat.le_refl _) _⟩
 simp [D,Nat.mod_one]):p:=h
theorem k90 {p:Prop} (h:p:=by
 go_enter Tryz.func28,Tryz.ntmps28
 go_wp2
 go_ret
 exact ⟨rfl,HB.out⟩):p:=h
theorem k91 {p:Prop} (h:p:=by
 have C1:=Lib.hid HC1
 have C2:=Lib.hid HC2
 have C3:=Lib.hid HS
 have C4:=Lib.hid HZ
 clear HC1 HC2 HS HZ 
 go_enter Tryz.func17,Tryz.ntmps17
 exact wk0):p:=h
theorem k92 {p:Prop} (h:p:=by
 rcases HGB.out with h | h
 · exact HYA.out a ha (by rw [e,h])
 · omega):p:=h
theorem k93 {p:Prop} (h:p:=by
 intro j u hj;exact one_cell j u hj (by first | (go_num;done) | (simp;rfl))):p:=h
theorem k94 {p:Prop} (h:p:=by
 rw [Rat.neg_num,hn]
 unfold enc
 rw [Int.natAbs_neg,Int.natAbs_natCast,show decide (-(n:Int)<0)=decide (0<n) from decide_eq_decide.2 (by omega)]):p:=h
theorem k95 {p:Prop} (h:p:=by
 rcases sgq_three g with ⟨h,e⟩ | ⟨h,e⟩ | ⟨h,e⟩<;>rcases sgq_three (g*g-4*R) with ⟨k,f⟩ | ⟨k,f⟩ | ⟨k,f⟩<;>rw [e,f]<;>grind):p:=h
theorem k96 {p:Prop} (h:p:=by
 exact Nat.dvd_add (Nat.dvd_trans (Nat.gcd_dvd_left _ _) (Nat.dvd_mul_left _ _)) (Nat.dvd_trans (Nat.gcd_dvd_right _ _) (Nat.dvd_mul_left _ _))):p:=h
theorem k97 {p:Prop} (h:p:=by
 rcases Nat.lt_or_ge i listed.size with h' | h'
 · simp [h'] at h0 h1;rw [h0] at h1;cases h1
 · simp [Array.getElem?_eq_none h'] at h1):p:=h
theorem k98 {p:Prop} (h:p:=by
 rw [←sgq_num]
 rcases Sg.sgq_three P with ⟨k,e⟩ | ⟨k,e⟩ | ⟨k,e⟩<;>rw [e]<;>constructor<;>intro h<;>first | omega | grind):p:=h
theorem k99 {p:Prop} (h:p:=by
 obtain ⟨z1,z2⟩:=sg2_ns ha hn f
 subst z1 z2
 rw [show A*0+B*0*a=0 by grind,show A*0+B*0=(0:Rat) by grind,f,Int.mul_zero]):p:=h
theorem k100 {p:Prop} (h:p:=by
 rw [if_neg h1]
 by_cases h2:i<j
 · rw [if_pos h2,if_pos (by omega)]
 · rw [if_neg h2,if_neg (by omega)]):p:=h
theorem k101 {p:Prop} (h:p:=by
 unfold Df at h ⊢
 simp [World.setCell,Array.getElem?_modify,h]):p:=h
theorem k102 {p:Prop} (h:p:=by
 rw [if_neg e]
 by_cases e2:j+1≤i
 · rw [if_pos e2,if_pos (by omega)]
 · rw [if_neg e2,if_neg (by omega)]):p:=h
theorem k103 {p:Prop} (h:p:=by
 subst h1
 rw [List.getElem?_append_right (Nat.le_refl _)] at hi
 simp at hi
 exact .inr ⟨rfl,by rw [←hi]⟩):p:=h
theorem k104 {p:Prop} (h:p:=by
 go_wp2
 go_roundw
 case rel=>exact ⟨i+1,by omega,by go_num,hn2,hbl⟩
 case measure=>simp [intOf]<;>omega):p:=h
theorem k105 {p:Prop} (h:p:=by
 have:=hg.size
 rcases hat with h | h
 · rw [h];exact hblk
 · right;intro k hk;rw [h] at hk;simp at hk;omega):p:=h
theorem k106 {p:Prop} (h:p:=by
 exact ((((Below.refl _ _).alloc (Nat.le_refl _) _).trans (hbl.mono (by omega))).setCell (by simp) _).setCell (by simp) _):p:=h
theorem k107 {p:Prop} (h:p:=by
 rw [if_pos e1,if_pos (by omega),e1,Nat.add_sub_cancel_left]
 exact (D_zero_of B64_pos HRW.out (Nat.le_refl _)).symm):p:=h
theorem k108 {p:Prop} (h:p:=by
 refine ⟨0,Nat.zero_le _,rfl,by rw [car_zero];rfl,HROW.out.congr fun j hj=>?_,HBL.out⟩
 rw [if_neg (by omega)]):p:=h
theorem k109 {p:Prop} (h:p:=by
 go_wp2
 go_ret
 exact ⟨k,hk,rfl,⟨⟨HV.out,by omega,HR.out.rd.take hk⟩,fun h=>(HT.out h).2⟩,rfl⟩):p:=h
theorem k110 {p:Prop} (h:p:=by
 have e:Q*(y1*b+y0)=Q*y1*b+Q*y0:=by rw [Nat.mul_add,Nat.mul_assoc]
 rw [e,←he,Nat.add_mul,Nat.mul_comm R b]
 omega):p:=h
theorem k111 {p:Prop} (h:p:=by
 rw [cmp_of]
 rcases sgq_three (a-b) with ⟨k,e⟩ | ⟨k,e⟩ | ⟨k,e⟩<;>rw [e]<;>constructor<;>intro h<;>grind):p:=h
theorem k112 {p:Prop} (h:p:=by
 go_wp2
 go_round
 case rel=>exact ⟨k-1,by omega,by omega,by go_num⟩
 case measure=>simp [intOf];omega):p:=h
theorem k113 {p:Prop} (h:p:=by
 rw [hbl.cell (p:=⟨g,o+j,none⟩) (by show g<_;omega),World.cell?_alloc_past _ _ _ hg];exact HC.out j (by omega)):p:=h
theorem k114 {p:Prop} (h:p:=by
 unfold dig
 rw [dif_pos (by omega),dif_pos (by omega)]
 congr 1
 rw [ByteArray.getElem_extract]
 congr 1
 omega):p:=h
theorem k115 {p:Prop} (h:p:=by
 rintro e w' ⟨rfl,rfl⟩
 go_wp2
 go_ret
 exact ⟨A',_,c',rfl,Tr.of hc' HN.out HD.out,hnx,HW.out⟩):p:=h
theorem k116 {p:Prop} (h:p:=by
 have h4:=cmp_trans (of_ok _) hz.ok (of_ok _) hz.pos h2
 have:=(lt_div (f:=0) h1).1 (of_lt.1 h4)
 omega):p:=h
theorem k117 {p:Prop} (h:p:=by
 go_enter Tryz.func170,Tryz.ntmps170
 go_wp2
 go_ret
 exact ⟨by first | rfl | (rw [←v1];rfl),rfl⟩):p:=h
theorem k118 {p:Prop} (h:p:=by
 unfold cmpQ cmpZ
 split
 · exact .inl rfl
 · split
   · exact .inr (.inr rfl)
   · exact .inr (.inl rfl)):p:=h
theorem k119 {p:Prop} (h:p:=by
 by_cases h2:1≤up a n
 · exact h2
 · have:=sq_lt (x:=up a n) (y:=1) (by grind) (by grind)
   grind):p:=h
theorem k120 {p:Prop} (h:p:=by
 clear hlt hnX hmY hx hy
 go_enter Tryz.func121,Tryz.ntmps121
 go_wp2
 go_ret
 exact ⟨rfl,0,rfl⟩):p:=h
theorem k121 {p:Prop} (h:p:=by
 rw [show ((((r+1)*(r+1):Nat):Int))=((r:Int)+1)*((r:Int)+1) by simp,Rat.intCast_mul,Rat.intCast_add]
 rfl):p:=h
theorem k122 {p:Prop} (h:p:=by
 obtain ⟨m,hm⟩:∃ m,i-l.length=m+1:=⟨i-l.length-1,by omega⟩
 rw [hm] at hi
 simp at hi):p:=h
theorem k123 {p:Prop} (h:p:=by
 obtain ⟨h1,h2⟩:=str_ne hn
 clear HD
 go_wp2_with fail
 go_meet
 exact ⟨rfl,X.out⟩):p:=h
theorem k124 {p:Prop} (h:p:=by
 rw [nat1] at this ⊢
 have e1:((1:Nat):Rat)=1:=rfl
 rw [e1] at this ⊢
 grind):p:=h
theorem sv {p:Prop} (h:p:=by intro w hSw;(try dsimp only at hSw);(first | (go_simp;done) | (go_simp;with_reducible rfl))):p:=h
theorem kx {p:Prop} (h:p:=by kernel_rfl):p:=h
theorem sl {p:Prop} (h:p:=by exact Or.inl ⟨by rfl,sv⟩):p:=h
theorem c01 {p:Prop} (h:p:=by exact Or.inr (fun _=>⟨X.out.c4 (i:=0) rfl,X.out.c4 (i:=1) rfl⟩)):p:=h
theorem c12 {p:Prop} (h:p:=by exact ⟨X.out.c3 (i:=1) rfl,X.out.c3 (i:=2) rfl⟩):p:=h
theorem d01 {p:Prop} (h:p:=by exact ⟨X.out.c4 (i:=0) rfl,X.out.c4 (i:=1) rfl⟩):p:=h
end Go.Proofs.YtpnokfgplnmjpaaGreatDoor
