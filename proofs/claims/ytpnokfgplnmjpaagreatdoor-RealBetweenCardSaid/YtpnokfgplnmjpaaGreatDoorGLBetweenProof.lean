import Derived.Test.YtpnokfgplnmjpaaGreatDoorRows
import Derived.Test.YtpnokfgplnmjpaaGreatDoorGROG
import Derived.Test.YtpnokfgplnmjpaaGreatDoorGROR
import Derived.ProofKit
import Derived.OpenShut
import Derived.ShutString
import Derived.ChangeOld
import Derived.Lib.SmallJoins
import Derived.Lib.LaidTab
import Derived.LaidMore
import Derived.Stop.Joined
import Derived.Stop.LaidErr
import Derived.SevenTiedAt
import Derived.Test.YtpnokfgplnmjpaaGreatDoorCards
import Derived.Test.YtpnokfgplnmjpaaGreatDoorTie
set_option linter.unusedSimpArgs false
set_option linter.unusedVariables false
set_option maxRecDepth 100000
set_option maxHeartbeats 2000000
namespace Go.Proofs.YtpnokfgplnmjpaaGreatDoor.lawRealBetween
open Go.ChangeShapes Go.WideShapes Go.ChangeAt Go.RowKit Go.Joins
open Go.ChangeMaps (open_string shut_string)
theorem own:ownKnob Tryz.prog.godebug=none:=by kernel_rfl
theorem laidOut:laidOutB Tryz.prog=true:=by kernel_rfl
theorem door_met (os:Os) (args:Array Value):laidMetH Tryz.prog Rows.realBetweenRow.laid ((World.doorLaid Tryz.prog 400 os).forCall (fun _ _=>0) ⟨#[],args,[]⟩).memory :=
 laidMetH_of_parts3 (fuel:=8) (laidMet_of_run' 8 kx kx) kx kx
theorem of_laid {W:World} (h:laidMetH Tryz.prog Rows.realBetweenRow.laid W):Env W:=by
 rw [MakeChecks.laidMetH_plain _ _ _ kx] at h
 exact env_of_laid2 h
theorem lifted (os:Os) (started:os.Started) (H:Type) (enc:TypeId×Value→H) :
  ReturnsInHanded {} Tryz.checked os 11 .any (fun w args=>(Rows.realBetweenSpec.pre enc Tryz.prog Tryz.f11 [] false w args∧laidMetH Tryz.prog Rows.realBetweenRow.laid w)∧sizedMet enc Tryz.prog Tryz.f11 (OpenSpec.ofChange Rows.realBetweenSpec) false w args) (Rows.realBetweenSpec.post enc Tryz.prog Tryz.f11 false true false false):=by
 refine returnsInHanded_of_change_and (C:=Tryz.checked) (X:=fun w _=>laidMetH Tryz.prog Rows.realBetweenRow.laid w) (fun _ _ _ hh h=>h.of_heap hh) own started kx Tryz.func11
  (ChangeSpec.witness_shaped (enc:=enc) (C:=Tryz.checked) (os:=os) (X:=fun w _=>laidMetH Tryz.prog Rows.realBetweenRow.laid w) false (World.doorLaid Tryz.prog 400 os) #[.agg #[.bool false,.string ByteArray.empty,.bool false,.string ByteArray.empty,.bool false,.string ByteArray.empty,.bool false,.string ByteArray.empty,.bool false],.agg #[.bool false,.string ByteArray.empty,.bool false,.string ByteArray.empty,.bool false,.string ByteArray.empty,.bool false,.string ByteArray.empty,.bool false]] 8 rfl (World.shaped_of_RefB kx kx) kx kx kx (door_met os _)) ?_
 intro W base args ds gs before hval0 hW _ hwt hL _
 have hval:∀ (j:Nat) t v,Tryz.f11.params[j]?=some t→args[j]?=some v→Value.okWide Tryz.prog W .any base t v:=hval0
 have hW':=hW
 obtain ⟨p,q,hA0,hV,rfl,hfz,hnd⟩:=hW
 have hA:DataW.TrodAll enc Tryz.prog W 0 (fun _=>true) true Tryz.f11.params.toList args.toList ds p:=hA0
 rw [Tryz.params11] at hA hval
 obtain ⟨v0,vs0,d0,ds0,p0,q0,hargs,rfl,rfl,h0,r0⟩:=trodAll_cons hA
 obtain ⟨v1,vs1,d1,ds1,p1,q1,rfl,rfl,rfl,h1,r1⟩:=trodAll_cons r0
 obtain ⟨rfl,rfl,rfl⟩:=trodAll_nil r1
 obtain rfl:args=#[v0,v1]:=by cases args;simp_all
 obtain ⟨rfl,rfl⟩:=trodVars_none hV
 have k0:=h0
 have lt0:∀ x∈p0,x.block<W.heap.size:=by obtain ⟨m,hm⟩:=k0;exact DataW.trod_lt m _ _ _ hm
 obtain ⟨b0,m0,d0,l0,c0,n0,e0,g0,s0,rfl,rfl⟩:=open_real (hval 0 27 v0 rfl rfl) h0
 have k1:=h1
 have lt1:∀ x∈p1,x.block<W.heap.size:=by obtain ⟨m,hm⟩:=k1;exact DataW.trod_lt m _ _ _ hm
 obtain ⟨b1,m1,d1,l1,c1,n1,e1,g1,s1,rfl,rfl⟩:=open_real (hval 1 27 v1 rfl rfl) h1
 rw [Tryz.params11] at hwt
 have hz:=List.all_eq_true.1 hwt
 have zm0:m0.size≤140737488351232:=of_decide_eq_true (hz _ (by show _∈DataW.weightsEach Tryz.prog _ _;simp [DataW.weightsEach,dReal_weights,dQuad_weights,dRat_weights]))
 have zl0:l0.size≤140737488351232:=of_decide_eq_true (hz _ (by show _∈DataW.weightsEach Tryz.prog _ _;simp [DataW.weightsEach,dReal_weights,dQuad_weights,dRat_weights]))
 have zn0:n0.size≤140737488351232:=of_decide_eq_true (hz _ (by show _∈DataW.weightsEach Tryz.prog _ _;simp [DataW.weightsEach,dReal_weights,dQuad_weights,dRat_weights]))
 have zg0:g0.size≤140737488351232:=of_decide_eq_true (hz _ (by show _∈DataW.weightsEach Tryz.prog _ _;simp [DataW.weightsEach,dReal_weights,dQuad_weights,dRat_weights]))
 have zm1:m1.size≤140737488351232:=of_decide_eq_true (hz _ (by show _∈DataW.weightsEach Tryz.prog _ _;simp [DataW.weightsEach,dReal_weights,dQuad_weights,dRat_weights]))
 have zl1:l1.size≤140737488351232:=of_decide_eq_true (hz _ (by show _∈DataW.weightsEach Tryz.prog _ _;simp [DataW.weightsEach,dReal_weights,dQuad_weights,dRat_weights]))
 have zn1:n1.size≤140737488351232:=of_decide_eq_true (hz _ (by show _∈DataW.weightsEach Tryz.prog _ _;simp [DataW.weightsEach,dReal_weights,dQuad_weights,dRat_weights]))
 have zg1:g1.size≤140737488351232:=of_decide_eq_true (hz _ (by show _∈DataW.weightsEach Tryz.prog _ _;simp [DataW.weightsEach,dReal_weights,dQuad_weights,dRat_weights]))
 clear hz hwt
 clear hA0 hval0
 refine (between_all b0 m0 d0 l0 c0 n0 e0 g0 s0 zm0 zl0 zn0 zg0 b1 m1 d1 l1 c1 n1 e1 g1 s1 zm1 zl1 zn1 zg1 W (of_laid hL)).mono fun e W' ⟨he,bel⟩=>?_
 subst he
 exact ⟨_,rfl,_,_,_,[],_,[],hW',trodAll_mk1 (shut_bool Tryz.underlying4 _),(trodAll_cons_mk (Below.trod laidOut kx (of_decide_eq_true kx) k0 bel lt0) (trodAll_cons_mk (Below.trod laidOut kx (of_decide_eq_true kx) k1 bel lt1) trodAll_mk0)),rfl,bel.frame _,fun h=>by cases h⟩
theorem proved:Rows.RealBetweenSaid :=
 OpenClaim.holds_of_wide 11 Tryz.f11 rfl rfl rfl rfl rfl rfl rfl ⟨rfl,rfl,rfl,rfl,rfl⟩ rfl rfl rfl rfl rfl kx Tryz.func11 kx
  (of_decide_eq_true kx) (by unfold Func.isWrapper;first | (rw [if_pos (by decide +kernel)];kernel_rfl) | (rw [if_neg (by decide +kernel)];exact ⟨rfl,rfl⟩))
  (fun os started H enc _=>lifted os started H enc)
theorem card:Rows.RealBetweenCardSaid :=
 Claim7.holds_tied_plain_at .later [] [.data,.data] true _ _
  proved (fun _ h=>by cases h) kx (fun _ h=>by cases h) realBetween_row_tie rfl ⟨rfl,rfl⟩ kx rfl
  (fun f fn hf hfn=>by
   obtain rfl:f=11:=Option.some.inj ((show Tryz.prog.funcNamed "viator/viatorlaw03.RealBetween"=some 11 by kernel_rfl).symm.trans hf) |>.symm
   obtain rfl:fn=Tryz.f11:=(Option.some.inj (Tryz.func11.symm.trans hfn)).symm
   exact ⟨by kernel_rfl,fun j t ht=>by
    rw [Tryz.params11] at ht
    have h3:t=27:=by
     rcases j with _ | _ | j
     · simpa using ht.symm
     · simpa using ht.symm
     · simp at ht
    rcases h3 with rfl
    · exact (show Tryz.prog.wantsStandIn 27=false by kernel_rfl)⟩)
  kx
end Go.Proofs.YtpnokfgplnmjpaaGreatDoor.lawRealBetween
