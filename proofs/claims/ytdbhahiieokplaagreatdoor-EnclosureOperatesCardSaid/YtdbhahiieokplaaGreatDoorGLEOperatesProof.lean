import Derived.Test.YtdbhahiieokplaaGreatDoorGRHB
import Derived.Test.YtdbhahiieokplaaGreatDoorGENZ
import Derived.Test.YtdbhahiieokplaaGreatDoorGEOE
import Derived.Test.YtdbhahiieokplaaGreatDoorGEOI
import Derived.Test.YtdbhahiieokplaaGreatDoorRows
import Derived.Test.YtdbhahiieokplaaGreatDoorGENP
import Derived.ProofKit
import Derived.OpenShut
import Derived.ShutString
import Derived.ChangeOld
import Derived.Lib.SmallJoins
import Derived.Lib.LaidTab
import Derived.LaidMore
import Derived.Stop.Joined
import Derived.Stop.LaidErr
import Derived.SevenTiedAt
import Derived.Test.YtdbhahiieokplaaGreatDoorCards
import Derived.Test.YtdbhahiieokplaaGreatDoorTie
set_option linter.unusedSimpArgs false
set_option linter.unusedVariables false

namespace Go.Proofs.YtdbhahiieokplaaGreatDoor
open Go.RowKit
attribute [local go_sem ↓] Go.wp_at_zero Go.wp_at_succ

theorem cellsAt_pre {W:World} {g:Nat} {cs:Array Value} {T:TypeId} (h:W.heap[g]?=some (.cells cs T (0,0))):∀ (l:List Value) (k:Nat),(∀ j,j<l.length→l[j]?=cs[k+j]?)→cellsAt W g k l
 | [],_,_=>trivial
 | v :: vs,k,e=>by
   have h0:=e 0 (by simp)
   simp at h0
   refine ⟨by simp [World.cell?,h,←h0],by simp [World.frozen?,h,←h0],cellsAt_pre h vs (k+1) fun j hj=>?_⟩
   have h1:=e (j+1) (by simpa using hj)
   simp at h1
   rw [h1]
   congr 1
   omega
theorem old_pre {w:World} {g:Nat} {cs:Array Value} {T:TypeId} (h:w.heap[g]?=some (.cells cs T (0,0))) (o:Nat) (l:List Value) (hl:∀ j,j<l.length→l[j]?=cs[o+j]?):Hid (∀ V,Below w.heap.size w V→cellsAt V g o l) :=
 Lib.hid fun V hb=>cellsAt_pre ((hb.block _ (Array.getElem?_eq_some_iff.1 h).1).trans h) l o hl
theorem pick_mn {p q:Rat} {b1 b2 b3:Bool} {m1 k1 m2 k2 m3 k3:ByteArray} (h1:Rq p b1 m1 k1) (h2:Rq q b2 m2 k2) (h3:Rq (mn p q) b3 m3 k3):(cmpQ q p<0∧b3=b2∧m3=m2∧k3=k2)∨(¬cmpQ q p<0∧b3=b1∧m3=m1∧k3=k1):=by
 by_cases h:p≤q
 · rw [show mn p q=p from if_pos h] at h3
   exact .inr ⟨by have:=cmpQ_ge.2 h;omega,h3.inj h1⟩
 · rw [show mn p q=q from if_neg h] at h3
   exact .inl ⟨by have:=mt cmpQ_ge.1 h;omega,h3.inj h2⟩
theorem pick_mx {p q:Rat} {b1 b2 b3:Bool} {m1 k1 m2 k2 m3 k3:ByteArray} (h1:Rq p b1 m1 k1) (h2:Rq q b2 m2 k2) (h3:Rq (mx p q) b3 m3 k3):(0<cmpQ q p∧b3=b2∧m3=m2∧k3=k2)∨(¬0<cmpQ q p∧b3=b1∧m3=m1∧k3=k1):=by
 by_cases h:q≤p
 · rw [show mx p q=p from if_pos h] at h3
   exact .inr ⟨by have:=cmpQ_le.2 h;omega,h3.inj h1⟩
 · rw [show mx p q=q from if_neg h] at h3
   exact .inl ⟨by have:=mt cmpQ_le.1 h;omega,h3.inj h2⟩
theorem cmp_self (p:Rat):¬cmpQ p p<0∧¬0<cmpQ p p:=by have:=cmpQ_zero.2 (rfl:p=p);omega
theorem lst2_f {q1 q2:Rat} {b1 b2 b11:Bool} {m1 k1 m2 k2 m11 k11:ByteArray} (h1:Rq q1 b1 m1 k1) (h2:Rq q2 b2 m2 k2) (z1:Sz 10000 q1) (z2:Sz 10000 q2) (h11:Rq (mn q1 q2) b11 m11 k11) (w:World) {T:TypeId} (g:Nat) (hg:w.heap[g]?=some (.cells (#[.bool b1,.string m1,.bool false,.string k1,.bool b2,.string m2,.bool false,.string k2]) T (0,0))):Calls Tryz.prog 129 #[.slice (some ⟨g,0,none⟩) 2 2] w (RetB w (.agg #[.bool b11,.string m11,.bool false,.string k11])):=by
 exact lst_w2 w (old_of hg 0 [.bool b1,.string m1,.bool false,.string k1,.bool b2,.string m2,.bool false,.string k2] (fun j=>by simp)).out (cmp_self q1).1 (pick_mn h1 h2 h11) (fun V _=>qcmp h1 h1 z1 z1 V) (fun V _=>qcmp h2 h1 z2 z1 V)
theorem gst2_f {q1 q2:Rat} {b1 b2 b11:Bool} {m1 k1 m2 k2 m11 k11:ByteArray} (h1:Rq q1 b1 m1 k1) (h2:Rq q2 b2 m2 k2) (z1:Sz 10000 q1) (z2:Sz 10000 q2) (h11:Rq (mx q1 q2) b11 m11 k11) (w:World) {T:TypeId} (g:Nat) (hg:w.heap[g]?=some (.cells (#[.bool b1,.string m1,.bool false,.string k1,.bool b2,.string m2,.bool false,.string k2]) T (0,0))):Calls Tryz.prog 130 #[.slice (some ⟨g,0,none⟩) 2 2] w (RetB w (.agg #[.bool b11,.string m11,.bool false,.string k11])):=by
 exact gst_w2 w (old_of hg 0 [.bool b1,.string m1,.bool false,.string k1,.bool b2,.string m2,.bool false,.string k2] (fun j=>by simp)).out (cmp_self q1).2 (pick_mx h1 h2 h11) (fun V _=>qcmp h1 h1 z1 z1 V) (fun V _=>qcmp h2 h1 z2 z1 V)
theorem arn2_f {q1 q2:Rat} {b1 b2 b21 b22:Bool} {m1 k1 m2 k2 m21 k21 m22 k22:ByteArray} (h1:Rq q1 b1 m1 k1) (h2:Rq q2 b2 m2 k2) (z1:Sz 10000 q1) (z2:Sz 10000 q2) (h21:Rq (mn q1 q2) b21 m21 k21) (h22:Rq (mx q1 q2) b22 m22 k22) (w:World) {T:TypeId} (g:Nat) (hg:w.heap[g]?=some (.cells (#[.bool b1,.string m1,.bool false,.string k1,.bool b2,.string m2,.bool false,.string k2]) T (0,0))):Calls Tryz.prog 84 #[.slice (some ⟨g,0,none⟩) 2 2] w (RetB w (.agg #[.bool b21,.string m21,.bool false,.string k21,.bool b22,.string m22,.bool false,.string k22])) :=
 around_w w (fun V hb=>lst2_f h1 h2 z1 z2 h21 V g ((hb.block _ (Array.getElem?_eq_some_iff.1 hg).1).trans hg)) (fun V hb=>gst2_f h1 h2 z1 z2 h22 V g ((hb.block _ (Array.getElem?_eq_some_iff.1 hg).1).trans hg))
theorem lst3_f {q1 q2 q3:Rat} {b1 b2 b3 b12:Bool} {m1 k1 m2 k2 m3 k3 m12 k12:ByteArray} (h1:Rq q1 b1 m1 k1) (h2:Rq q2 b2 m2 k2) (h3:Rq q3 b3 m3 k3) (z1:Sz 10000 q1) (z2:Sz 10000 q2) (z3:Sz 10000 q3) (h12:Rq (mn (mn q1 q2) q3) b12 m12 k12) (w:World) {T:TypeId} (g C:Nat) (rest:Array Value) (hg:w.heap[g]?=some (.cells (#[.bool b1,.string m1,.bool false,.string k1,.bool b2,.string m2,.bool false,.string k2]++(#[.bool b3,.string m3,.bool false,.string k3]++rest)) T (0,0))):Calls Tryz.prog 129 #[.slice (some ⟨g,0,none⟩) 3 C] w (RetB w (.agg #[.bool b12,.string m12,.bool false,.string k12])):=by
 obtain ⟨b11,m11,k11,h11⟩:=Rq.some_ ((mn q1 q2))
 exact lst_w3 w (old_pre hg 0 [.bool b1,.string m1,.bool false,.string k1,.bool b2,.string m2,.bool false,.string k2,.bool b3,.string m3,.bool false,.string k3] (fun j hj=>by rcases j with _ | _ | _ | _ | _ | _ | _ | _ | _ | _ | _ | _ | j<;>first | (simp [Array.getElem?_append];done) | (exact absurd hj (by simp)) | (exact absurd hj (by simp;omega)))).out (cmp_self q1).1 (pick_mn h1 h2 h11) (pick_mn h11 h3 h12) (fun V _=>qcmp h1 h1 z1 z1 V) (fun V _=>qcmp h2 h1 z2 z1 V) (fun V _=>qcmp h3 h11 z3 (z1.mn z2) V)
theorem gst3_f {q1 q2 q3:Rat} {b1 b2 b3 b12:Bool} {m1 k1 m2 k2 m3 k3 m12 k12:ByteArray} (h1:Rq q1 b1 m1 k1) (h2:Rq q2 b2 m2 k2) (h3:Rq q3 b3 m3 k3) (z1:Sz 10000 q1) (z2:Sz 10000 q2) (z3:Sz 10000 q3) (h12:Rq (mx (mx q1 q2) q3) b12 m12 k12) (w:World) {T:TypeId} (g C:Nat) (rest:Array Value) (hg:w.heap[g]?=some (.cells (#[.bool b1,.string m1,.bool false,.string k1,.bool b2,.string m2,.bool false,.string k2]++(#[.bool b3,.string m3,.bool false,.string k3]++rest)) T (0,0))):Calls Tryz.prog 130 #[.slice (some ⟨g,0,none⟩) 3 C] w (RetB w (.agg #[.bool b12,.string m12,.bool false,.string k12])):=by
 obtain ⟨b11,m11,k11,h11⟩:=Rq.some_ ((mx q1 q2))
 exact gst_w3 w (old_pre hg 0 [.bool b1,.string m1,.bool false,.string k1,.bool b2,.string m2,.bool false,.string k2,.bool b3,.string m3,.bool false,.string k3] (fun j hj=>by rcases j with _ | _ | _ | _ | _ | _ | _ | _ | _ | _ | _ | _ | j<;>first | (simp [Array.getElem?_append];done) | (exact absurd hj (by simp)) | (exact absurd hj (by simp;omega)))).out (cmp_self q1).2 (pick_mx h1 h2 h11) (pick_mx h11 h3 h12) (fun V _=>qcmp h1 h1 z1 z1 V) (fun V _=>qcmp h2 h1 z2 z1 V) (fun V _=>qcmp h3 h11 z3 (z1.mx z2) V)
theorem arn3_f {q1 q2 q3:Rat} {b1 b2 b3 b21 b22:Bool} {m1 k1 m2 k2 m3 k3 m21 k21 m22 k22:ByteArray} (h1:Rq q1 b1 m1 k1) (h2:Rq q2 b2 m2 k2) (h3:Rq q3 b3 m3 k3) (z1:Sz 10000 q1) (z2:Sz 10000 q2) (z3:Sz 10000 q3) (h21:Rq (mn (mn q1 q2) q3) b21 m21 k21) (h22:Rq (mx (mx q1 q2) q3) b22 m22 k22) (w:World) {T:TypeId} (g C:Nat) (rest:Array Value) (hg:w.heap[g]?=some (.cells (#[.bool b1,.string m1,.bool false,.string k1,.bool b2,.string m2,.bool false,.string k2]++(#[.bool b3,.string m3,.bool false,.string k3]++rest)) T (0,0))):Calls Tryz.prog 84 #[.slice (some ⟨g,0,none⟩) 3 C] w (RetB w (.agg #[.bool b21,.string m21,.bool false,.string k21,.bool b22,.string m22,.bool false,.string k22])) :=
 around_w w (fun V hb=>lst3_f h1 h2 h3 z1 z2 z3 h21 V g C rest ((hb.block _ (Array.getElem?_eq_some_iff.1 hg).1).trans hg)) (fun V hb=>gst3_f h1 h2 h3 z1 z2 z3 h22 V g C rest ((hb.block _ (Array.getElem?_eq_some_iff.1 hg).1).trans hg))
theorem lst4_f {q1 q2 q3 q4:Rat} {b1 b2 b3 b4 b13:Bool} {m1 k1 m2 k2 m3 k3 m4 k4 m13 k13:ByteArray} (h1:Rq q1 b1 m1 k1) (h2:Rq q2 b2 m2 k2) (h3:Rq q3 b3 m3 k3) (h4:Rq q4 b4 m4 k4) (z1:Sz 10000 q1) (z2:Sz 10000 q2) (z3:Sz 10000 q3) (z4:Sz 10000 q4) (h13:Rq (mn (mn (mn q1 q2) q3) q4) b13 m13 k13) (w:World) {T:TypeId} (g:Nat) (hg:w.heap[g]?=some (.cells (#[.bool b1,.string m1,.bool false,.string k1,.bool b2,.string m2,.bool false,.string k2,.bool b3,.string m3,.bool false,.string k3,.bool b4,.string m4,.bool false,.string k4]) T (0,0))):Calls Tryz.prog 129 #[.slice (some ⟨g,0,none⟩) 4 4] w (RetB w (.agg #[.bool b13,.string m13,.bool false,.string k13])):=by
 obtain ⟨b11,m11,k11,h11⟩:=Rq.some_ ((mn q1 q2))
 obtain ⟨b12,m12,k12,h12⟩:=Rq.some_ ((mn (mn q1 q2) q3))
 exact lst_w4 w (old_of hg 0 [.bool b1,.string m1,.bool false,.string k1,.bool b2,.string m2,.bool false,.string k2,.bool b3,.string m3,.bool false,.string k3,.bool b4,.string m4,.bool false,.string k4] (fun j=>by simp)).out (cmp_self q1).1 (pick_mn h1 h2 h11) (pick_mn h11 h3 h12) (pick_mn h12 h4 h13) (fun V _=>qcmp h1 h1 z1 z1 V) (fun V _=>qcmp h2 h1 z2 z1 V) (fun V _=>qcmp h3 h11 z3 (z1.mn z2) V) (fun V _=>qcmp h4 h12 z4 ((z1.mn z2).mn z3) V)
theorem gst4_f {q1 q2 q3 q4:Rat} {b1 b2 b3 b4 b13:Bool} {m1 k1 m2 k2 m3 k3 m4 k4 m13 k13:ByteArray} (h1:Rq q1 b1 m1 k1) (h2:Rq q2 b2 m2 k2) (h3:Rq q3 b3 m3 k3) (h4:Rq q4 b4 m4 k4) (z1:Sz 10000 q1) (z2:Sz 10000 q2) (z3:Sz 10000 q3) (z4:Sz 10000 q4) (h13:Rq (mx (mx (mx q1 q2) q3) q4) b13 m13 k13) (w:World) {T:TypeId} (g:Nat) (hg:w.heap[g]?=some (.cells (#[.bool b1,.string m1,.bool false,.string k1,.bool b2,.string m2,.bool false,.string k2,.bool b3,.string m3,.bool false,.string k3,.bool b4,.string m4,.bool false,.string k4]) T (0,0))):Calls Tryz.prog 130 #[.slice (some ⟨g,0,none⟩) 4 4] w (RetB w (.agg #[.bool b13,.string m13,.bool false,.string k13])):=by
 obtain ⟨b11,m11,k11,h11⟩:=Rq.some_ ((mx q1 q2))
 obtain ⟨b12,m12,k12,h12⟩:=Rq.some_ ((mx (mx q1 q2) q3))
 exact gst_w4 w (old_of hg 0 [.bool b1,.string m1,.bool false,.string k1,.bool b2,.string m2,.bool false,.string k2,.bool b3,.string m3,.bool false,.string k3,.bool b4,.string m4,.bool false,.string k4] (fun j=>by simp)).out (cmp_self q1).2 (pick_mx h1 h2 h11) (pick_mx h11 h3 h12) (pick_mx h12 h4 h13) (fun V _=>qcmp h1 h1 z1 z1 V) (fun V _=>qcmp h2 h1 z2 z1 V) (fun V _=>qcmp h3 h11 z3 (z1.mx z2) V) (fun V _=>qcmp h4 h12 z4 ((z1.mx z2).mx z3) V)
theorem arn4_f {q1 q2 q3 q4:Rat} {b1 b2 b3 b4 b21 b22:Bool} {m1 k1 m2 k2 m3 k3 m4 k4 m21 k21 m22 k22:ByteArray} (h1:Rq q1 b1 m1 k1) (h2:Rq q2 b2 m2 k2) (h3:Rq q3 b3 m3 k3) (h4:Rq q4 b4 m4 k4) (z1:Sz 10000 q1) (z2:Sz 10000 q2) (z3:Sz 10000 q3) (z4:Sz 10000 q4) (h21:Rq (mn (mn (mn q1 q2) q3) q4) b21 m21 k21) (h22:Rq (mx (mx (mx q1 q2) q3) q4) b22 m22 k22) (w:World) {T:TypeId} (g:Nat) (hg:w.heap[g]?=some (.cells (#[.bool b1,.string m1,.bool false,.string k1,.bool b2,.string m2,.bool false,.string k2,.bool b3,.string m3,.bool false,.string k3,.bool b4,.string m4,.bool false,.string k4]) T (0,0))):Calls Tryz.prog 84 #[.slice (some ⟨g,0,none⟩) 4 4] w (RetB w (.agg #[.bool b21,.string m21,.bool false,.string k21,.bool b22,.string m22,.bool false,.string k22])) :=
 around_w w (fun V hb=>lst4_f h1 h2 h3 h4 z1 z2 z3 z4 h21 V g ((hb.block _ (Array.getElem?_eq_some_iff.1 hg).1).trans hg)) (fun V hb=>gst4_f h1 h2 h3 h4 z1 z2 z3 z4 h22 V g ((hb.block _ (Array.getElem?_eq_some_iff.1 hg).1).trans hg))

theorem mn_left {a b:Rat} (h:a≤b):mn a b=a:=if_pos h
theorem mx_right {a b:Rat} (h:a≤b):mx a b=b:=by
 unfold mx
 split<;>grind
theorem fadd5_f {p q r s:Rat} {b1 b2 b3 b4 b7 b8:Bool} {m1 k1 m2 k2 m3 k3 m4 k4 m7 k7 m8 k8:ByteArray} (h1:Rq p b1 m1 k1) (h2:Rq q b2 m2 k2) (h3:Rq r b3 m3 k3) (h4:Rq s b4 m4 k4) (h7:Rq (p+r) b7 m7 k7) (h8:Rq (q+s) b8 m8 k8) (hpq:p≤q) (hrs:r≤s) (z1:Sz 2000 p) (z2:Sz 2000 q) (z3:Sz 2000 r) (z4:Sz 2000 s) (w:World):Calls Tryz.prog 28 #[.agg #[.bool b1,.string m1,.bool false,.string k1,.bool b2,.string m2,.bool false,.string k2],.agg #[.bool b3,.string m3,.bool false,.string k3,.bool b4,.string m4,.bool false,.string k4]] w (RetB w (.agg #[.bool b7,.string m7,.bool false,.string k7,.bool b8,.string m8,.bool false,.string k8])):=by
 obtain ⟨b5,m5,k5,h5⟩:=Rq.some_ (p+r)
 obtain ⟨b6,m6,k6,h6⟩:=Rq.some_ (q+s)
 have e:p+r≤q+s:=by grind
 exact fadd5_w w (fun V _ {T} g hg=>arn2_f h5 h6 ((z1.add z3).up (by omega)) ((z2.add z4).up (by omega)) (by rw [mn_left e];exact h7) (by rw [mx_right e];exact h8) V g hg) (fun V _=>radd_z h1 h3 h5 (z1.up (by omega)) (z3.up (by omega)) V) (fun V _=>radd_z h2 h4 h6 (z2.up (by omega)) (z4.up (by omega)) V)
theorem fsub5_f {p q r s:Rat} {b1 b2 b3 b4 b7 b8:Bool} {m1 k1 m2 k2 m3 k3 m4 k4 m7 k7 m8 k8:ByteArray} (h1:Rq p b1 m1 k1) (h2:Rq q b2 m2 k2) (h3:Rq r b3 m3 k3) (h4:Rq s b4 m4 k4) (h7:Rq (p-s) b7 m7 k7) (h8:Rq (q-r) b8 m8 k8) (hpq:p≤q) (hrs:r≤s) (z1:Sz 2000 p) (z2:Sz 2000 q) (z3:Sz 2000 r) (z4:Sz 2000 s) (w:World):Calls Tryz.prog 31 #[.agg #[.bool b1,.string m1,.bool false,.string k1,.bool b2,.string m2,.bool false,.string k2],.agg #[.bool b3,.string m3,.bool false,.string k3,.bool b4,.string m4,.bool false,.string k4]] w (RetB w (.agg #[.bool b7,.string m7,.bool false,.string k7,.bool b8,.string m8,.bool false,.string k8])):=by
 obtain ⟨b5,m5,k5,h5⟩:=Rq.some_ (p-s)
 obtain ⟨b6,m6,k6,h6⟩:=Rq.some_ (q-r)
 have e:p-s≤q-r:=by grind
 exact fsub5_w w (fun V _ {T} g hg=>arn2_f h5 h6 ((z1.sub z4).up (by omega)) ((z2.sub z3).up (by omega)) (by rw [mn_left e];exact h7) (by rw [mx_right e];exact h8) V g hg) (fun V _=>rsub_z h1 h4 h5 (z1.up (by omega)) (z4.up (by omega)) V) (fun V _=>rsub_z h2 h3 h6 (z2.up (by omega)) (z3.up (by omega)) V)
theorem fmul5_f {p q r s:Rat} {b1 b2 b3 b4 b9 b10:Bool} {m1 k1 m2 k2 m3 k3 m4 k4 m9 k9 m10 k10:ByteArray} (h1:Rq p b1 m1 k1) (h2:Rq q b2 m2 k2) (h3:Rq r b3 m3 k3) (h4:Rq s b4 m4 k4) (h9:Rq (mlo p q r s) b9 m9 k9) (h10:Rq (mhi p q r s) b10 m10 k10) (z1:Sz 2000 p) (z2:Sz 2000 q) (z3:Sz 2000 r) (z4:Sz 2000 s) (w:World):Calls Tryz.prog 33 #[.agg #[.bool b1,.string m1,.bool false,.string k1,.bool b2,.string m2,.bool false,.string k2],.agg #[.bool b3,.string m3,.bool false,.string k3,.bool b4,.string m4,.bool false,.string k4]] w (RetB w (.agg #[.bool b9,.string m9,.bool false,.string k9,.bool b10,.string m10,.bool false,.string k10])):=by
 obtain ⟨b5,m5,k5,h5⟩:=Rq.some_ (p*r)
 obtain ⟨b6,m6,k6,h6⟩:=Rq.some_ (p*s)
 obtain ⟨b7,m7,k7,h7⟩:=Rq.some_ (q*r)
 obtain ⟨b8,m8,k8,h8⟩:=Rq.some_ (q*s)
 exact fmul5_w w (fun V _ {T} g hg=>arn4_f h5 h6 h7 h8 ((z1.mul z3).up (by omega)) ((z1.mul z4).up (by omega)) ((z2.mul z3).up (by omega)) ((z2.mul z4).up (by omega)) h9 h10 V g hg) (fun V _=>rmul_z h1 h3 h5 (z1.up (by omega)) (z3.up (by omega)) V) (fun V _=>rmul_z h1 h4 h6 (z1.up (by omega)) (z4.up (by omega)) V) (fun V _=>rmul_z h2 h3 h7 (z2.up (by omega)) (z3.up (by omega)) V) (fun V _=>rmul_z h2 h4 h8 (z2.up (by omega)) (z4.up (by omega)) V)
theorem fdiv5_f {p q r s:Rat} {b1 b2 b3 b4 b9 b10:Bool} {m1 k1 m2 k2 m3 k3 m4 k4 m9 k9 m10 k10:ByteArray} (h1:Rq p b1 m1 k1) (h2:Rq q b2 m2 k2) (h3:Rq r b3 m3 k3) (h4:Rq s b4 m4 k4) (h9:Rq (mn (mn (mn (p / r) (p / s)) (q / r)) (q / s)) b9 m9 k9) (h10:Rq (mx (mx (mx (p / r) (p / s)) (q / r)) (q / s)) b10 m10 k10) (r0:r.num≠0) (s0:s.num≠0) (z1:Sz 2000 p) (z2:Sz 2000 q) (z3:Sz 2000 r) (z4:Sz 2000 s) (w:World):Calls Tryz.prog 40 #[.agg #[.bool b1,.string m1,.bool false,.string k1,.bool b2,.string m2,.bool false,.string k2],.agg #[.bool b3,.string m3,.bool false,.string k3,.bool b4,.string m4,.bool false,.string k4]] w (RetB w (.agg #[.bool b9,.string m9,.bool false,.string k9,.bool b10,.string m10,.bool false,.string k10])):=by
 obtain ⟨b5,m5,k5,h5⟩:=Rq.some_ (p / r)
 obtain ⟨b6,m6,k6,h6⟩:=Rq.some_ (p / s)
 obtain ⟨b7,m7,k7,h7⟩:=Rq.some_ (q / r)
 obtain ⟨b8,m8,k8,h8⟩:=Rq.some_ (q / s)
 exact fdiv5_w w (fun V _ {T} g hg=>arn4_f h5 h6 h7 h8 ((z1.quo z3 r0).up (by omega)) ((z1.quo z4 s0).up (by omega)) ((z2.quo z3 r0).up (by omega)) ((z2.quo z4 s0).up (by omega)) h9 h10 V g hg) (fun V _=>rdiv_z h1 h3 h5 r0 (z1.up (by omega)) (z3.up (by omega)) V) (fun V _=>rdiv_z h1 h4 h6 s0 (z1.up (by omega)) (z4.up (by omega)) V) (fun V _=>rdiv_z h2 h3 h7 r0 (z2.up (by omega)) (z3.up (by omega)) V) (fun V _=>rdiv_z h2 h4 h8 s0 (z2.up (by omega)) (z4.up (by omega)) V)
theorem fsqu5_f {p q:Rat} {b1 b2 b5 b6:Bool} {m1 k1 m2 k2 m5 k5 m6 k6:ByteArray} (h1:Rq p b1 m1 k1) (h2:Rq q b2 m2 k2) (h5:Rq (slo p q) b5 m5 k5) (h6:Rq (shi p q) b6 m6 k6) (z1:Sz 2000 p) (z2:Sz 2000 q) (w:World):Calls Tryz.prog 35 #[.agg #[.bool b1,.string m1,.bool false,.string k1,.bool b2,.string m2,.bool false,.string k2]] w (RetB w (.agg #[.bool b5,.string m5,.bool false,.string k5,.bool b6,.string m6,.bool false,.string k6])):=by
 obtain ⟨b3,m3,k3,h3⟩:=Rq.some_ (p*p)
 obtain ⟨b4,m4,k4,h4⟩:=Rq.some_ (q*q)
 have HC:=fun V (_:Below w.heap.size w V)=>fcon_f h1 h2 Rq.zero (z1.up (by omega)) (z2.up (by omega)) (Sz.zero 9999) V
 have H1:=fun V (_:Below w.heap.size w V)=>rmul_z h1 h1 h3 (z1.up (by omega)) (z1.up (by omega)) V
 have H2:=fun V (_:Below w.heap.size w V)=>rmul_z h2 h2 h4 (z2.up (by omega)) (z2.up (by omega)) V
 unfold slo at h5
 unfold shi at h6
 by_cases h:p≤0∧0≤q
 · rw [if_pos h] at h5 h6
   rw [decide_eq_true h] at HC
   exact fsqu5_yes w (fun V _ {T} g C rest hg=>arn3_f h3 h4 Rq.zero ((z1.mul z1).up (by omega)) ((z2.mul z2).up (by omega)) (Sz.zero 9999) h5 h6 V g C rest hg) H1 H2 HC
 · rw [if_neg h] at h5 h6
   rw [decide_eq_false h] at HC
   exact fsqu5_no w (fun V _ {T} g hg=>arn2_f h3 h4 ((z1.mul z1).up (by omega)) ((z2.mul z2).up (by omega)) h5 h6 V g hg) H1 H2 HC
theorem mn_comm (a b:Rat):mn a b=mn b a:=by
 unfold mn
 split<;>split<;>grind
theorem mx_comm (a b:Rat):mx a b=mx b a:=by
 unfold mx
 split<;>split<;>grind
theorem mn_rc (a b c:Rat):mn (mn a b) c=mn (mn a c) b:=by
 unfold mn
 repeat' split
 all_goals grind
theorem mx_rc (a b c:Rat):mx (mx a b) c=mx (mx a c) b:=by
 unfold mx
 repeat' split
 all_goals grind
theorem mn_dup (a b:Rat):mn (mn (mn a a) b) b=mn a b:=by
 unfold mn
 repeat' split
 all_goals grind
theorem mx_dup (a b:Rat):mx (mx (mx a a) b) b=mx a b:=by
 unfold mx
 repeat' split
 all_goals grind
theorem div_lo (p q r s:Rat):mn (mn (mn (p / r) (p / s)) (q / r)) (q / s)=mlo p q (1 / s) (1 / r):=by
 unfold mlo
 rw [div_by p r,div_by p s,div_by q r,div_by q s,mn_comm (p*(1 / r)),mn_rc _ (q*(1 / r)) (q*(1 / s))]
theorem div_hi (p q r s:Rat):mx (mx (mx (p / r) (p / s)) (q / r)) (q / s)=mhi p q (1 / s) (1 / r):=by
 unfold mhi
 rw [div_by p r,div_by p s,div_by q r,div_by q s,mx_comm (p*(1 / r)),mx_rc _ (q*(1 / r)) (q*(1 / s))]
end Go.Proofs.YtdbhahiieokplaaGreatDoor


namespace Go.Proofs.YtdbhahiieokplaaGreatDoor
open Go.RowKit
attribute [local go_sem ↓] Go.wp_at_zero Go.wp_at_succ

theorem oper_all (n1 d1 n2 d2:Int) (na1:-2147483648≤n1) (nb1:n1≤2147483647) (da1:0≤d1) (db1:d1≤65535) (na2:-2147483648≤n2) (nb2:n2≤2147483647) (da2:0≤d2) (db2:d2≤65535) (n3 d3 n4 d4:Int) (na3:-2147483648≤n3) (nb3:n3≤2147483647) (da3:0≤d3) (db3:d3≤65535) (na4:-2147483648≤n4) (nb4:n4≤2147483647) (da4:0≤d4) (db4:d4≤65535) (n5 d5:Int) (na5:-2147483648≤n5) (nb5:n5≤2147483647) (da5:0≤d5) (db5:d5≤65535) (w:World) (hE:Env w):Calls Tryz.prog 5 #[.agg #[.int .i32 n1,.int .u16 d1,.int .i32 n2,.int .u16 d2],.agg #[.int .i32 n3,.int .u16 d3,.int .i32 n4,.int .u16 d4],.agg #[.int .i32 n5,.int .u16 d5]] w (RetB w (.bool true)):=by
 obtain ⟨p,q,b1,m1,k1,b2,m2,k2,h1,h2,hpq,z1,z2,HA⟩:=pof_f na1 nb1 da1 db1 na2 nb2 da2 db2
 obtain ⟨r,s,b3,m3,k3,b4,m4,k4,h3,h4,hrs,z3,z4,HB⟩:=pof_f na3 nb3 da3 db3 na4 nb4 da4 db4
 have z5:=part_size na5 nb5 da5 db5
 obtain ⟨x,hx⟩:∃ x,Rat.divInt n5 (d5+1)=x:=⟨_,rfl⟩
 obtain ⟨b5,m5,k5,h5⟩:=Rq.some_ (Rat.divInt n5 (d5+1))
 have hE':=fun V (hb:Below w.heap.size w V)=>hE.next hb
 obtain ⟨b6,m6,k6,h6⟩:=Rq.some_ (p+r)
 obtain ⟨b7,m7,k7,h7⟩:=Rq.some_ (q+s)
 obtain ⟨b8,m8,k8,h8⟩:=Rq.some_ (p-s)
 obtain ⟨b9,m9,k9,h9⟩:=Rq.some_ (q-r)
 obtain ⟨b10,m10,k10,h10⟩:=Rq.some_ (mlo p q r s)
 obtain ⟨b11,m11,k11,h11⟩:=Rq.some_ (mhi p q r s)
 obtain ⟨b12,m12,k12,h12⟩:=Rq.some_ (slo p q)
 obtain ⟨b13,m13,k13,h13⟩:=Rq.some_ (shi p q)
 obtain ⟨b14,m14,k14,h14⟩:=Rq.some_ (-q)
 obtain ⟨b15,m15,k15,h15⟩:=Rq.some_ (-p)
 obtain ⟨b16,m16,k16,h16⟩:=Rq.some_ (mn (p*Rat.divInt n5 (d5+1)) (q*Rat.divInt n5 (d5+1)))
 obtain ⟨b17,m17,k17,h17⟩:=Rq.some_ (mx (p*Rat.divInt n5 (d5+1)) (q*Rat.divInt n5 (d5+1)))
 have HC:=fun V (_:Below w.heap.size w V)=>fcon_f h3 h4 Rq.zero (z3.up (by omega)) (z4.up (by omega)) (Sz.zero 9999) V
 by_cases h0:r≤0∧0≤s
 · rw [decide_eq_true h0] at HC
   exact oper_no w (fun V _=>low_any V) (fun V _=>same5_yes V) (fun V hb=>rknown5 V (hE' V hb)) (fun V _=>HA V) (fun V _=>HB V) (fun V _=>prat_f na5 nb5 da5 db5 h5 V) (fun V hb=>eadd_f h1 h2 h3 h4 h6 h7 (z1.up (by omega)) (z2.up (by omega)) (z3.up (by omega)) (z4.up (by omega)) V (hE' V hb)) (fun V _=>fadd5_f h1 h2 h3 h4 h6 h7 hpq hrs (z1.up (by omega)) (z2.up (by omega)) (z3.up (by omega)) (z4.up (by omega)) V) (fun V hb=>esub_f h1 h2 h3 h4 h8 h9 (z1.up (by omega)) (z2.up (by omega)) (z3.up (by omega)) (z4.up (by omega)) V (hE' V hb)) (fun V _=>fsub5_f h1 h2 h3 h4 h8 h9 hpq hrs (z1.up (by omega)) (z2.up (by omega)) (z3.up (by omega)) (z4.up (by omega)) V) (fun V hb=>emul_f h1 h2 h3 h4 h10 h11 (z1.up (by omega)) (z2.up (by omega)) (z3.up (by omega)) (z4.up (by omega)) V (hE' V hb)) (fun V _=>fmul5_f h1 h2 h3 h4 h10 h11 (z1.up (by omega)) (z2.up (by omega)) (z3.up (by omega)) (z4.up (by omega)) V) (fun V hb=>esqu_f h1 h2 h12 h13 (z1.up (by omega)) (z2.up (by omega)) V (hE' V hb)) (fun V _=>fsqu5_f h1 h2 h12 h13 (z1.up (by omega)) (z2.up (by omega)) V) (fun V _=>eneg_f h1 h2 h14 h15 V) (fun V _=>fsub5_f Rq.zero Rq.zero h1 h2 (by rw [show (0:Rat)-q=-q by grind];exact h14) (by rw [show (0:Rat)-p=-p by grind];exact h15) Rat.le_refl hpq (Sz.zero 1999) (Sz.zero 1999) (z1.up (by omega)) (z2.up (by omega)) V) (fun V hb=>esca_f h1 h2 h5 h16 h17 (z1.up (by omega)) (z2.up (by omega)) (z5.up (by omega)) V (hE' V hb)) (fun V _=>fmul5_f h1 h2 h5 h5 (by unfold mlo;rw [mn_dup];exact h16) (by unfold mhi;rw [mx_dup];exact h17) (z1.up (by omega)) (z2.up (by omega)) (z5.up (by omega)) (z5.up (by omega)) V) (fun V hb=>ediv_0 h3 h4 h0 (z3.up (by omega)) (z4.up (by omega)) V (hE' V hb)) HC
 · rw [decide_eq_false h0] at HC
   obtain ⟨b18,m18,k18,h18⟩:=Rq.some_ (mlo p q (1 / s) (1 / r))
   obtain ⟨b19,m19,k19,h19⟩:=Rq.some_ (mhi p q (1 / s) (1 / r))
   have s0:s.num≠0:=fun e=>h0 (by have e:=Rat.num_eq_zero.1 e;subst e;exact ⟨hrs,Rat.le_refl⟩)
   have r0:r.num≠0:=fun e=>h0 (by have e:=Rat.num_eq_zero.1 e;subst e;exact ⟨Rat.le_refl,hrs⟩)
   exact oper_yes w (fun V _=>low_any V) (fun V _=>same5_yes V) (fun V hb=>rknown5 V (hE' V hb)) (fun V _=>HA V) (fun V _=>HB V) (fun V _=>prat_f na5 nb5 da5 db5 h5 V) (fun V hb=>eadd_f h1 h2 h3 h4 h6 h7 (z1.up (by omega)) (z2.up (by omega)) (z3.up (by omega)) (z4.up (by omega)) V (hE' V hb)) (fun V _=>fadd5_f h1 h2 h3 h4 h6 h7 hpq hrs (z1.up (by omega)) (z2.up (by omega)) (z3.up (by omega)) (z4.up (by omega)) V) (fun V hb=>esub_f h1 h2 h3 h4 h8 h9 (z1.up (by omega)) (z2.up (by omega)) (z3.up (by omega)) (z4.up (by omega)) V (hE' V hb)) (fun V _=>fsub5_f h1 h2 h3 h4 h8 h9 hpq hrs (z1.up (by omega)) (z2.up (by omega)) (z3.up (by omega)) (z4.up (by omega)) V) (fun V hb=>emul_f h1 h2 h3 h4 h10 h11 (z1.up (by omega)) (z2.up (by omega)) (z3.up (by omega)) (z4.up (by omega)) V (hE' V hb)) (fun V _=>fmul5_f h1 h2 h3 h4 h10 h11 (z1.up (by omega)) (z2.up (by omega)) (z3.up (by omega)) (z4.up (by omega)) V) (fun V hb=>esqu_f h1 h2 h12 h13 (z1.up (by omega)) (z2.up (by omega)) V (hE' V hb)) (fun V _=>fsqu5_f h1 h2 h12 h13 (z1.up (by omega)) (z2.up (by omega)) V) (fun V _=>eneg_f h1 h2 h14 h15 V) (fun V _=>fsub5_f Rq.zero Rq.zero h1 h2 (by rw [show (0:Rat)-q=-q by grind];exact h14) (by rw [show (0:Rat)-p=-p by grind];exact h15) Rat.le_refl hpq (Sz.zero 1999) (Sz.zero 1999) (z1.up (by omega)) (z2.up (by omega)) V) (fun V hb=>esca_f h1 h2 h5 h16 h17 (z1.up (by omega)) (z2.up (by omega)) (z5.up (by omega)) V (hE' V hb)) (fun V _=>fmul5_f h1 h2 h5 h5 (by unfold mlo;rw [mn_dup];exact h16) (by unfold mhi;rw [mx_dup];exact h17) (z1.up (by omega)) (z2.up (by omega)) (z5.up (by omega)) (z5.up (by omega)) V) (fun V hb=>ediv_f h1 h2 h3 h4 h18 h19 h0 hrs (z1.up (by omega)) (z2.up (by omega)) (z3.up (by omega)) (z4.up (by omega)) V (hE' V hb)) HC (fun V _=>fdiv5_f h1 h2 h3 h4 (by rw [div_lo];exact h18) (by rw [div_hi];exact h19) r0 s0 (z1.up (by omega)) (z2.up (by omega)) (z3.up (by omega)) (z4.up (by omega)) V)
end Go.Proofs.YtdbhahiieokplaaGreatDoor
namespace Go.Proofs.YtdbhahiieokplaaGreatDoor.lawEnclosureOperates
open Go.ChangeShapes Go.WideShapes Go.ChangeAt Go.RowKit Go.Joins
open Go.ChangeMaps (open_string shut_string)

theorem own:ownKnob Tryz.prog.godebug=none:=by kernel_rfl
theorem laidOut:laidOutB Tryz.prog=true:=by kernel_rfl

theorem door_met (os:Os) (args:Array Value):laidMetH Tryz.prog Rows.enclosureOperatesRow.laid ((World.doorLaid Tryz.prog 400 os).forCall (fun _ _=>0) ⟨#[],args,[]⟩).memory :=
 laidMetH_of_parts3 (fuel:=8) (laidMet_of_run' 8 (by kernel_rfl) (by kernel_rfl)) (by kernel_rfl) (by kernel_rfl)

theorem of_laid {W:World} (h:laidMetH Tryz.prog Rows.enclosureOperatesRow.laid W):Env W:=by
 rw [MakeChecks.laidMetH_plain _ _ _ (by kernel_rfl)] at h
 exact env_of_laid2 h

set_option maxHeartbeats 2000000 in
set_option maxRecDepth 100000 in
theorem lifted (os:Os) (started:os.Started) (H:Type) (enc:TypeId×Value→H) :
  ReturnsInHanded {} Tryz.checked os 5 .any (fun w args=>(Rows.enclosureOperatesSpec.pre enc Tryz.prog Tryz.f5 [] false w args∧laidMetH Tryz.prog Rows.enclosureOperatesRow.laid w)∧sizedMet enc Tryz.prog Tryz.f5 (OpenSpec.ofChange Rows.enclosureOperatesSpec) false w args) (Rows.enclosureOperatesSpec.post enc Tryz.prog Tryz.f5 false true false false):=by
 refine returnsInHanded_of_change_and (C:=Tryz.checked) (X:=fun w _=>laidMetH Tryz.prog Rows.enclosureOperatesRow.laid w) (fun _ _ _ hh h=>h.of_heap hh) own started (by kernel_rfl) Tryz.func5
  (ChangeSpec.witness_shaped (enc:=enc) (C:=Tryz.checked) (os:=os) (X:=fun w _=>laidMetH Tryz.prog Rows.enclosureOperatesRow.laid w) false (World.doorLaid Tryz.prog 400 os) #[.agg #[.int .i32 0,.int .u16 0,.int .i32 0,.int .u16 0],.agg #[.int .i32 0,.int .u16 0,.int .i32 0,.int .u16 0],.agg #[.int .i32 0,.int .u16 0]] 8 rfl (World.shaped_of_RefB (by kernel_rfl) (by kernel_rfl)) (by kernel_rfl) (by kernel_rfl) (by kernel_rfl) (door_met os _)) ?_
 intro W base args ds gs before hval0 hW _ hwt hL _
 have hval:∀ (j:Nat) t v,Tryz.f5.params[j]?=some t→args[j]?=some v→Value.okWide Tryz.prog W .any base t v:=hval0
 have hW':=hW
 obtain ⟨p,q,hA0,hV,rfl,hfz,hnd⟩:=hW
 have hA:DataW.TrodAll enc Tryz.prog W 0 (fun _=>true) true Tryz.f5.params.toList args.toList ds p:=hA0
 rw [Tryz.params5] at hA hval
 obtain ⟨v0,vs0,d0,ds0,p0,q0,hargs,rfl,rfl,h0,r0⟩:=trodAll_cons hA
 obtain ⟨v1,vs1,d1,ds1,p1,q1,rfl,rfl,rfl,h1,r1⟩:=trodAll_cons r0
 obtain ⟨v2,vs2,d2,ds2,p2,q2,rfl,rfl,rfl,h2,r2⟩:=trodAll_cons r1
 obtain ⟨rfl,rfl,rfl⟩:=trodAll_nil r2
 obtain rfl:args=#[v0,v1,v2]:=by cases args;simp_all
 obtain ⟨rfl,rfl⟩:=trodVars_none hV
 have k0:=h0
 have lt0:∀ x∈p0,x.block<W.heap.size:=by obtain ⟨m,hm⟩:=k0;exact DataW.trod_lt m _ _ _ hm
 obtain ⟨n0a,n0b,n0c,n0d,rfl,⟨ga0,gb0⟩,gc0,gd0⟩:=open_pair (hval 0 54 v0 rfl rfl) h0
 have k1:=h1
 have lt1:∀ x∈p1,x.block<W.heap.size:=by obtain ⟨m,hm⟩:=k1;exact DataW.trod_lt m _ _ _ hm
 obtain ⟨n1a,n1b,n1c,n1d,rfl,⟨ga1,gb1⟩,gc1,gd1⟩:=open_pair (hval 1 54 v1 rfl rfl) h1
 have k2:=h2
 have lt2:∀ x∈p2,x.block<W.heap.size:=by obtain ⟨m,hm⟩:=k2;exact DataW.trod_lt m _ _ _ hm
 obtain ⟨n2a,n2b,rfl,ga2,gb2⟩:=open_part (hval 2 28 v2 rfl rfl) h2
 clear hA0 hval0
 refine (oper_all n0a n0b n0c n0d ga0.1 ga0.2 gb0.1 gb0.2 gc0.1 gc0.2 gd0.1 gd0.2 n1a n1b n1c n1d ga1.1 ga1.2 gb1.1 gb1.2 gc1.1 gc1.2 gd1.1 gd1.2 n2a n2b ga2.1 ga2.2 gb2.1 gb2.2 W (of_laid hL)).mono fun e W' ⟨he,bel⟩=>?_
 subst he
 exact ⟨_,rfl,_,_,_,[],_,[],hW',trodAll_mk1 (shut_bool Tryz.underlying4 _),(trodAll_cons_mk (Below.trod laidOut (by kernel_rfl) (of_decide_eq_true (by kernel_rfl)) k0 bel lt0) (trodAll_cons_mk (Below.trod laidOut (by kernel_rfl) (of_decide_eq_true (by kernel_rfl)) k1 bel lt1) (trodAll_cons_mk (Below.trod laidOut (by kernel_rfl) (of_decide_eq_true (by kernel_rfl)) k2 bel lt2) trodAll_mk0))),rfl,bel.frame _,fun h=>by cases h⟩

theorem proved:Rows.EnclosureOperatesSaid :=
 OpenClaim.holds_of_wide 5 Tryz.f5 rfl rfl rfl rfl rfl rfl rfl ⟨rfl,rfl,rfl,rfl,rfl⟩ rfl rfl rfl rfl rfl (by kernel_rfl) Tryz.func5 (by kernel_rfl)
  (of_decide_eq_true (by kernel_rfl)) (by unfold Func.isWrapper;first | (rw [if_pos (by decide +kernel)];kernel_rfl) | (rw [if_neg (by decide +kernel)];exact ⟨rfl,rfl⟩))
  (fun os started H enc _=>lifted os started H enc)

theorem card:Rows.EnclosureOperatesCardSaid :=
 Claim7.holds_tied_plain_at .later [] [.data,.data] true _ _
  proved (fun _ h=>by cases h) (by kernel_rfl) (fun _ h=>by cases h) enclosureOperates_row_tie rfl ⟨rfl,rfl⟩ (by kernel_rfl) rfl
  (fun f fn hf hfn=>by
   obtain rfl:f=5:=Option.some.inj ((show Tryz.prog.funcNamed "viator/viatorlaw05.EnclosureOperates"=some 5 by kernel_rfl).symm.trans hf) |>.symm
   obtain rfl:fn=Tryz.f5:=(Option.some.inj (Tryz.func5.symm.trans hfn)).symm
   exact ⟨by kernel_rfl,fun j t ht=>by
    rw [Tryz.params5] at ht
    have h3:t=54∨t=28:=by
     rcases j with _ | _ | _ | j
     · left;simpa using ht.symm
     · left;simpa using ht.symm
     · right;simpa using ht.symm
     · simp at ht
    rcases h3 with rfl | rfl
    · exact (show Tryz.prog.wantsStandIn 54=false by kernel_rfl)
    · exact (show Tryz.prog.wantsStandIn 28=false by kernel_rfl)⟩)
  (by kernel_rfl)
end Go.Proofs.YtdbhahiieokplaaGreatDoor.lawEnclosureOperates
