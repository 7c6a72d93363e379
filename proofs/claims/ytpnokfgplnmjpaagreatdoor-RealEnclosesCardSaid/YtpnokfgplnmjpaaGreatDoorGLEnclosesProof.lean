import Derived.Test.YtpnokfgplnmjpaaGreatDoorRows
import Derived.Test.YtpnokfgplnmjpaaGreatDoorGRMG
import Derived.Test.YtpnokfgplnmjpaaGreatDoorGROR
import Derived.ProofKit
import Derived.OpenShut
import Derived.ShutString
import Derived.ChangeOld
import Derived.Lib.SmallJoins
import Derived.Lib.LaidTab
import Derived.LaidMore
import Derived.Stop.Joined
import Derived.Stop.LaidErr
import Derived.SevenTiedAt
import Derived.Test.YtpnokfgplnmjpaaGreatDoorCards
import Derived.Test.YtpnokfgplnmjpaaGreatDoorTie
set_option linter.unusedSimpArgs false
set_option linter.unusedVariables false

namespace Go.Proofs.YtpnokfgplnmjpaaGreatDoor.lawRealEncloses
open Go.ChangeShapes Go.WideShapes Go.ChangeAt Go.RowKit Go.Joins
open Go.ChangeMaps (open_string shut_string)

theorem own:ownKnob Tryz.prog.godebug=none:=by kernel_rfl
theorem laidOut:laidOutB Tryz.prog=true:=by kernel_rfl

theorem door_met (os:Os) (args:Array Value):laidMetH Tryz.prog Rows.realEnclosesRow.laid ((World.doorLaid Tryz.prog 400 os).forCall (fun _ _=>0) ⟨#[],args,[]⟩).memory :=
 laidMetH_of_parts3 (fuel:=8) (laidMet_of_run' 8 (by kernel_rfl) (by kernel_rfl)) (by kernel_rfl) (by kernel_rfl)

theorem of_laid {W:World} (h:laidMetH Tryz.prog Rows.realEnclosesRow.laid W):Env W:=by
 rw [MakeChecks.laidMetH_plain _ _ _ (by kernel_rfl)] at h
 exact env_of_laid2 h

set_option maxHeartbeats 2000000 in
set_option maxRecDepth 100000 in
theorem lifted (os:Os) (started:os.Started) (H:Type) (enc:TypeId×Value→H) :
  ReturnsInHanded {} Tryz.checked os 12 .any (fun w args=>(Rows.realEnclosesSpec.pre enc Tryz.prog Tryz.f12 [] false w args∧laidMetH Tryz.prog Rows.realEnclosesRow.laid w)∧sizedMet enc Tryz.prog Tryz.f12 (OpenSpec.ofChange Rows.realEnclosesSpec) false w args) (Rows.realEnclosesSpec.post enc Tryz.prog Tryz.f12 false true false false):=by
 refine returnsInHanded_of_change_and (C:=Tryz.checked) (X:=fun w _=>laidMetH Tryz.prog Rows.realEnclosesRow.laid w) (fun _ _ _ hh h=>h.of_heap hh) own started (by kernel_rfl) Tryz.func12
  (ChangeSpec.witness_shaped (enc:=enc) (C:=Tryz.checked) (os:=os) (X:=fun w _=>laidMetH Tryz.prog Rows.realEnclosesRow.laid w) false (World.doorLaid Tryz.prog 400 os) #[.agg #[.bool false,.string ByteArray.empty,.bool false,.string ByteArray.empty,.bool false,.string ByteArray.empty,.bool false,.string ByteArray.empty,.bool false],.int .i64 0] 8 rfl (World.shaped_of_RefB (by kernel_rfl) (by kernel_rfl)) (by kernel_rfl) (by kernel_rfl) (by kernel_rfl) (door_met os _)) ?_
 intro W base args ds gs before hval0 hW _ hwt hL _
 have hval:∀ (j:Nat) t v,Tryz.f12.params[j]?=some t→args[j]?=some v→Value.okWide Tryz.prog W .any base t v:=hval0
 have hW':=hW
 obtain ⟨p,q,hA0,hV,rfl,hfz,hnd⟩:=hW
 have hA:DataW.TrodAll enc Tryz.prog W 0 (fun _=>true) true Tryz.f12.params.toList args.toList ds p:=hA0
 rw [Tryz.params12] at hA hval
 obtain ⟨v0,vs0,d0,ds0,p0,q0,hargs,rfl,rfl,h0,r0⟩:=trodAll_cons hA
 obtain ⟨v1,vs1,d1,ds1,p1,q1,rfl,rfl,rfl,h1,r1⟩:=trodAll_cons r0
 obtain ⟨rfl,rfl,rfl⟩:=trodAll_nil r1
 obtain rfl:args=#[v0,v1]:=by cases args;simp_all
 obtain ⟨rfl,rfl⟩:=trodVars_none hV
 have k0:=h0
 have lt0:∀ x∈p0,x.block<W.heap.size:=by obtain ⟨m,hm⟩:=k0;exact DataW.trod_lt m _ _ _ hm
 obtain ⟨b0,m0,d0,l0,c0,n0,e0,g0,s0,rfl,rfl⟩:=open_real (hval 0 27 v0 rfl rfl) h0
 have k1:=h1
 have lt1:∀ x∈p1,x.block<W.heap.size:=by obtain ⟨m,hm⟩:=k1;exact DataW.trod_lt m _ _ _ hm
 obtain ⟨n1,w1,z1⟩:∃ n,(Lit.int .i64 n).wf=true∧v1=.int .i64 n:=by
  obtain ⟨n,e,_,_,wn⟩:=open_int Tryz.underlying3 (hval 1 3 v1 rfl rfl) h1
  exact ⟨n,wn,e⟩
 subst z1
 have bd1:=bounds_i64 w1
 rw [Tryz.params12] at hwt
 have hz:=List.all_eq_true.1 hwt
 have zm0:m0.size≤140737488351232:=of_decide_eq_true (hz _ (by show _∈DataW.weightsEach Tryz.prog _ _;simp [DataW.weightsEach,dReal_weights,dQuad_weights,dRat_weights]))
 have zl0:l0.size≤140737488351232:=of_decide_eq_true (hz _ (by show _∈DataW.weightsEach Tryz.prog _ _;simp [DataW.weightsEach,dReal_weights,dQuad_weights,dRat_weights]))
 have zn0:n0.size≤140737488351232:=of_decide_eq_true (hz _ (by show _∈DataW.weightsEach Tryz.prog _ _;simp [DataW.weightsEach,dReal_weights,dQuad_weights,dRat_weights]))
 have zg0:g0.size≤140737488351232:=of_decide_eq_true (hz _ (by show _∈DataW.weightsEach Tryz.prog _ _;simp [DataW.weightsEach,dReal_weights,dQuad_weights,dRat_weights]))
 clear hz hwt
 clear hA0 hval0
 refine (encs_all b0 m0 d0 l0 c0 n0 e0 g0 s0 zm0 zl0 zn0 zg0 n1 (by omega) (by omega) W (of_laid hL)).mono fun e W' ⟨he,bel⟩=>?_
 subst he
 exact ⟨_,rfl,_,_,_,[],_,[],hW',trodAll_mk1 (shut_bool Tryz.underlying4 _),(trodAll_cons_mk (Below.trod laidOut (by kernel_rfl) (of_decide_eq_true (by kernel_rfl)) k0 bel lt0) (trodAll_cons_mk (Below.trod laidOut (by kernel_rfl) (of_decide_eq_true (by kernel_rfl)) k1 bel lt1) trodAll_mk0)),rfl,bel.frame _,fun h=>by cases h⟩

theorem proved:Rows.RealEnclosesSaid :=
 OpenClaim.holds_of_wide 12 Tryz.f12 rfl rfl rfl rfl rfl rfl rfl ⟨rfl,rfl,rfl,rfl,rfl⟩ rfl rfl rfl rfl rfl (by kernel_rfl) Tryz.func12 (by kernel_rfl)
  (of_decide_eq_true (by kernel_rfl)) (by unfold Func.isWrapper;first | (rw [if_pos (by decide +kernel)];kernel_rfl) | (rw [if_neg (by decide +kernel)];exact ⟨rfl,rfl⟩))
  (fun os started H enc _=>lifted os started H enc)

theorem card:Rows.RealEnclosesCardSaid :=
 Claim7.holds_tied_plain_at .later [] [.data,.data] true _ _
  proved (fun _ h=>by cases h) (by kernel_rfl) (fun _ h=>by cases h) realEncloses_row_tie rfl ⟨rfl,rfl⟩ (by kernel_rfl) rfl
  (fun f fn hf hfn=>by
   obtain rfl:f=12:=Option.some.inj ((show Tryz.prog.funcNamed "viator/viatorlaw03.RealEncloses"=some 12 by kernel_rfl).symm.trans hf) |>.symm
   obtain rfl:fn=Tryz.f12:=(Option.some.inj (Tryz.func12.symm.trans hfn)).symm
   exact ⟨by kernel_rfl,fun j t ht=>by
    rw [Tryz.params12] at ht
    have h3:t=27∨t=3:=by
     rcases j with _ | _ | j
     · left;simpa using ht.symm
     · right;simpa using ht.symm
     · simp at ht
    rcases h3 with rfl | rfl
    · exact (show Tryz.prog.wantsStandIn 27=false by kernel_rfl)
    · exact (show Tryz.prog.wantsStandIn 3=false by kernel_rfl)⟩)
  (by kernel_rfl)
end Go.Proofs.YtpnokfgplnmjpaaGreatDoor.lawRealEncloses
