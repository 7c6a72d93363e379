import Derived.Test.YtpnokfgplnmjpaaGreatDoorGShelfX
import Derived.Test.YtpnokfgplnmjpaaGreatDoorGRLG
import Derived.Deep.RegionWith
import Derived.Deep.RegionHeld
set_option linter.unusedSimpArgs false
set_option linter.unusedVariables false

namespace Go.Proofs.YtpnokfgplnmjpaaGreatDoor
open Go.RowKit
attribute [local go_sem ↓] Go.wp_at_zero Go.wp_at_succ

theorem magL_two {r:Nat} (hr:r<8):∀ a:Nat,magL (2^(8*a+r))=UInt8.ofNat (2^r) :: Lib.repeatL [0] a
 | 0=>by
   have h1:2^r<256:=Nat.lt_of_lt_of_eq (Nat.pow_lt_pow_right (by decide) hr) rfl
   have h2:0<(2:Nat)^r:=Nat.pow_pos (by decide)
   rw [show 8*0+r=r by omega,magL_pos (by omega),Nat.div_eq_of_lt h1,magL_zero,Nat.mod_eq_of_lt h1]
   rfl
 | a+1=>by
   have h2:0<(2:Nat)^(8*a+r):=Nat.pow_pos (by decide)
   have e:(2:Nat)^(8*(a+1)+r)=2^(8*a+r)*256:=by
    rw [show 8*(a+1)+r=(8*a+r)+8 by omega,Nat.pow_add]
   rw [e,magL_pos (by omega),Nat.mul_div_cancel _ (by decide),Nat.mul_mod_left,magL_two hr a]
   have h3:∀ k,Lib.repeatL [(0:UInt8)] k++[0]=Lib.repeatL [0] (k+1):=fun k=>by
    induction k with
    | zero=>rfl
    | succ k ih =>
      show (0 :: Lib.repeatL [0] k)++[0]=0 :: Lib.repeatL [0] (k+1)
      rw [List.cons_append,ih]
   rw [List.cons_append]
   exact congrArg _ (h3 a)

set_option maxHeartbeats 4000000 in
set_option maxRecDepth 100000 in
theorem pow2_f (n:Nat) (hn:n≤64) (w:World):Calls Tryz.prog 113 #[.int .i64 (n:Int)] w (RetZ w ((2^n:Nat):Int)):=by
 obtain ⟨a,ha⟩:∃ a,n / 8=a:=⟨_,rfl⟩
 obtain ⟨r,hr⟩:∃ r,n%8=r:=⟨_,rfl⟩
 have hr8:r<8:=by omega
 have HN:=Lib.hid (show n=8*a+r by omega)
 have q1:(n:Int) / 8=(a:Int):=by omega
 have q2:(n:Int).tmod 8=(r:Int):=by rw [Int.tmod_eq_emod_of_nonneg (by omega)];omega
 have q3:IntKind.i64.wrap (a:Int)=(a:Int):=IntWalk.i64_in _ (by omega)
 have n0:(0:Int)≤(n:Int):=by omega
 have n1:(n:Int)≤64:=by omega
 have hlt:(2:Nat)^r<256:=Nat.lt_of_lt_of_eq (Nat.pow_lt_pow_right (by decide) hr8) rfl
 have HRP:=Lib.hid (fun V=>Tryz.strings_Repeat ⟨#[0]⟩ a V (by omega) (by show 1*a≤_;omega))
 obtain ⟨v,hv⟩:∃ v:Nat,2^r=v:=⟨_,rfl⟩
 have hi:(2:Int)^r=(v:Int):=by rw [←hv];simp
 rw [hv] at hlt
 have HV:=Lib.hid hv
 have hu:IntKind.u8.wrap (v:Int)=(v:Int):=IntWalk.u8_in _ (by omega)
 have hrl:(Lib.repeatL [(0:UInt8)] a).length=a:=by rw [Lib.repeatL_length];simp
 obtain ⟨S2,hS2⟩:∃ S2:ByteArray,S2=⟨(Lib.repeatL [0] a).toArray⟩:=⟨_,rfl⟩
 have hc2:S2.size=a:=by rw [hS2];simpa [ByteArray.size] using hrl
 have HRP2:Hid (∀ V,Calls Tryz.prog 162 #[.string ⟨#[0]⟩,.int .i64 (a:Int)] V (RetB V (.string S2))):=Lib.hid fun V=>by rw [hS2];exact (HRP.out V)
 have HS2:=Lib.hid hS2
 have hst:=fun (W:World) (h:W.heap[w.heap.size+1]?=some (.cells #[.int .u8 (v:Int)] 5 (0,0)))=>str_of_cells W 151 9 5 Tryz.underlying151 Tryz.underlying5 Tryz.underlying9 (w.heap.size+1) 0 1 1 (fun _=>v) (fun _ _=>hlt) (fun i hi=>by rw [show i=0 by omega];simp [World.cell?,h])
 obtain ⟨S1,hS1⟩:∃ S1:ByteArray,bytesOf (fun _=>v) 1=S1:=⟨_,rfl⟩
 have hc1:S1.size=1:=by rw [←hS1,bytesOf_size]
 have hcc:¬9223372036854775807<S1.size+S2.size:=by omega
 have HS1:=Lib.hid hS1
 rw [hS1] at hst
 have HC:=Lib.hid (And.intro hc1 hc2)
 clear ha hr hv hS2 HRP hS1 hc1 hc2
 go_enter Tryz.func113,Tryz.ntmps113
 go_wp2_with fail
 refine gs2 (M:=fun W=>Code.wp _ _ _ _ W) (fun V X0=>?_)
 have X:=Lib.hid X0
 clear X0
 have h0:=hst V.drew (X.out.drew.at (i:=1) rfl)
 have HB:=Lib.hid (X.out.at (i:=0) rfl)
 have F:=X.out.facts
 simp only [Facts,cellsAt] at F
 go_region_held3 (fun w'=>(convert 151 9 (.slice (some ⟨w.heap.size+1,0,none⟩) 1 1)).run Tryz.prog w'=.ok (.string S1) w')
  (first | exact h1 | exact h0 | exact hst _ ((X2.out.set2 (i:=0) rfl _ _).at (i:=1) rfl) | go_keep)
  (first | (go_at_call 162;(with_reducible refine (HRP2.out _).mono ?_);rintro e u ⟨rfl,hb9⟩;have X2:=Lib.hid (X.out.drew.next hb9);clear hb9;have h1:=hst u (X2.out.at (i:=1) rfl);have F2:=X2.out.facts;simp only [Facts,cellsAt] at F2))
 have X3:=Lib.hid (X2.out.set2 (i:=0) rfl (.bool false) (.string (S1++S2)))
 have hz:Value.agg #[.bool false,.string (S1++S2)]=enc ((2^n:Nat):Int):=by
  rw [enc_mag,HN.out]
  have hS:S1++S2=mag (2^(8*a+r)):=by
   apply ByteArray.ext
   rw [ByteArray.data_append,←HS1.out,HS2.out]
   unfold mag bytesOf
   rw [magL_two hr8,HV.out]
   simp
  rw [hS]
 have HZ:=Lib.hid hz
 clear hz h0 h1
 go_wp2
 exact bodyPost_ret (v:=.agg #[.bool false,.string (S1++S2)]) (by simp [results,Tryz.results113,go_sem,F2]) rfl ⟨by rw [HZ.out],X3.out.bel⟩
end Go.Proofs.YtpnokfgplnmjpaaGreatDoor
