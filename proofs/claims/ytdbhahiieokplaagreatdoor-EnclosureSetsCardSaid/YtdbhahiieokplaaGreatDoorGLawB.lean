import Derived.Test.YtdbhahiieokplaaGreatDoorGLawA
import Derived.Test.YtdbhahiieokplaaGreatDoorGRNC
import Derived.StringKeys
set_option linter.unusedSimpArgs false
set_option linter.unusedVariables false

namespace Go.Proofs.YtdbhahiieokplaaGreatDoor
open Go.RowKit
attribute [local go_sem ↓] Go.wp_at_zero Go.wp_at_succ

theorem empty_no {s:ByteArray} (h:0<s.size):s.toList.isEmpty=false:=by
 rw [ByteArray.toList_eq]
 have:s.data.toList.length=s.size:=by simp
 cases hs:s.data.toList with
 | nil=>rw [hs] at this;simp at this;omega
 | cons c l=>rfl
theorem empty_yes {s:ByteArray} (h:¬0<s.size):s.toList.isEmpty=true:=by
 rw [ByteArray.toList_eq]
 have:s.data.toList.length=s.size:=by simp
 cases hs:s.data.toList with
 | nil=>rfl
 | cons c l=>rw [hs] at this;simp at this;omega

def checkV (neg:Bool) (s:ByteArray):Int:=if canonB neg s then 0 else 5

set_option maxHeartbeats 1000000 in
set_option maxRecDepth 100000 in
theorem check_any (neg:Bool) (s:ByteArray) (w:World) :
  Calls Tryz.prog 114 #[.agg #[.bool neg,.string s]] w (RetB w (.int .i64 (checkV neg s))):=by
 by_cases h:0<s.size
 · have hv:canonB neg s=((s[0]'h).toNat != 0):=by unfold canonB;rw [dif_pos h]
   have HV:=Lib.hid hv
   clear hv
   have he:=empty_no h
   go_enter Tryz.func114,Tryz.ntmps114
   go_wp2
   · have ht:(((s[0]'h).toNat:Int)==0)=true:=by assumption
     go_ret
     refine ⟨congrArg (fun z=>Ending.returned (.int .i64 z)) ?_,(Below.refl _ _).alloc (Nat.le_refl _) _⟩
     unfold checkV
     rw [HV.out]
     simp at ht
     simp [ht]
   · have ht:(((s[0]'h).toNat:Int)==0)=false:=by assumption
     go_ret
     refine ⟨congrArg (fun z=>Ending.returned (.int .i64 z)) ?_,(Below.refl _ _).alloc (Nat.le_refl _) _⟩
     unfold checkV
     rw [HV.out]
     simp at ht
     simp [ht]
 · have hv:canonB neg s=!neg:=by unfold canonB;rw [dif_neg h]
   have HV:=Lib.hid hv
   clear hv
   have he:=empty_yes h
   cases neg
   all_goals
    go_enter Tryz.func114,Tryz.ntmps114
    go_wp2
    go_ret
    refine ⟨congrArg (fun z=>Ending.returned (.int .i64 z)) ?_,(Below.refl _ _).alloc (Nat.le_refl _) _⟩
    unfold checkV
    rw [HV.out]
    rfl

end Go.Proofs.YtdbhahiieokplaaGreatDoor
