/-
  report.about and report.Of.
-/
import Derived.Test.YtdjgpbanokdnhaaPtDf
import Derived.Test.YtdjgpbanokdnhaaPtJ
import Derived.Test.YtdjgpbanokdnhaaPtY
namespace Go.Proofs.Ytdjgpbanokdnhaa.Pt
open Go.RowKit

def otherB (o : Int) (r : Rep) : Bool := r.ob != o
/-- The reports about an object. -/
def aboutL (o : Int) (l : List Rep) : List Rep := keepL (otherB o) l
theorem aboutL_mem (o : Int) (l : List Rep) (r : Rep) : r ∈ aboutL o l ↔ r ∈ l ∧ r.ob = o := by simp [aboutL, keepL, otherB]
theorem aboutL_len (o : Int) (l : List Rep) : (aboutL o l).length ≤ l.length := List.length_filter_le _ _

set_option maxRecDepth 100000 in
theorem about1_f (o : Int) (r : Rep) (g : Nat) (w : World) (hc : w.cell? ⟨g, 0, none⟩ = some (.int .i64 o)) (hg : g < w.heap.size) :
    Calls Try.prog 60 #[agR r, .pointer (some ⟨g, 0, none⟩)] w (RetB w (.bool (otherB o r))) := by
  have hc2 : ∀ x, (w.alloc x).cell? ⟨g, 0, none⟩ = some (.int .i64 o) := fun x => ((Bel.new w x).cell hg).trans hc
  have HQ : Hid (otherB o r = (r.ob != o)) := Lib.hid rfl
  generalize otherB o r = res at HQ ⊢
  clear hc
  go_enter Try.func60, Try.ntmps60
  go_wp2
  go_ret
  exact ⟨by rw [HQ.out]; rfl, Bel.new _ _⟩

set_option maxRecDepth 100000 in
theorem about_f (l : List Rep) (o : Int) (v : Value) (w : World) (hv : IsL w v l) (hb : l.length ≤ 1000000) : Calls Try.prog 47 #[v, .int .i64 o] w (RetP w fun x W => Own w W x (aboutL o l)) := by
  have HC : Hid (∀ W, Bel w W → Calls Try.prog 59 #[v] W (RetP W fun x W' => Own W W' x l)) := Lib.hid fun W hbl => clone_f l v W (hv.bel hbl) hb
  have eg : ∀ args w, (callFunc 60 args).run Try.prog w = .ok (.enter 60 args) w := enters_of Try.func60 (by kernel_rfl) rfl
  have HP : Hid (Pred (w.alloc (.cells #[.int .i64 o] 3)) 60 #[.pointer (some ⟨w.heap.size, 0, none⟩)] (otherB o)) := Lib.hid fun W hbl r => about1_f o r w.heap.size W ((hbl.cell (by simp)).trans (by simp [go_sem])) (Nat.lt_of_lt_of_le (by simp) hbl.size)
  have HD : Hid (∀ W x, Own (w.alloc (.cells #[.int .i64 o] 3)) W x l → Bel (w.alloc (.cells #[.int .i64 o] 3)) W → Calls Try.prog 58 #[x, .func (.func 60) #[] #[.pointer (some ⟨w.heap.size, 0, none⟩)]] W (RetO (w.alloc (.cells #[.int .i64 o] 3)) (aboutL o l))) :=
    Lib.hid fun W x h1 h2 => deleteFunc_f _ W l (otherB o) _ _ x h1 h2 hb eg HP.out
  obtain ⟨p, c, rfl⟩ := hv.shape
  clear hv eg HP
  go_enter Try.func47, Try.ntmps47
  go_wp2_with (first
    | (go_at_call 59; refine (HC.out _ (Bel.new _ _)).mono ?_; rintro e w1 ⟨x, rfl, hown, hbel⟩; have O1 := Lib.hid hown; have B1 := Lib.hid hbel; clear hown hbel)
    | (go_at_call 58; refine (HD.out _ _ O1.out B1.out).mono ?_; rintro e w2 ⟨y, rfl, hown, hbel⟩; have O2 := Lib.hid hown; have B2 := Lib.hid hbel; clear hown hbel))
  go_ret
  exact ⟨_, rfl, own_base O2.out (by simp), (Bel.new w _).trans B2.out⟩

set_option maxRecDepth 100000 in
theorem of_f (l : List Rep) (o : Int) (v : Value) (w : World) (hv : IsL w v l) (hb : l.length ≤ 1000000) : Calls Try.prog 33 #[v, .int .i64 o] w (RetP w fun x W => Own w W x (cntL (aboutL o l))) := by
  have HC : Hid (∀ W, Bel w W → Calls Try.prog 47 #[v, .int .i64 o] W (RetP W fun x W' => Own W W' x (aboutL o l))) := Lib.hid fun W hbl => about_f l o v W (hv.bel hbl) hb
  have HD : Hid (∀ W x, IsL W x (aboutL o l) → Calls Try.prog 27 #[x] W (RetP W fun x W' => Own W W' x (cntL (aboutL o l)))) := Lib.hid fun W x h => counting_f _ x W h (Nat.le_trans (aboutL_len o l) hb)
  obtain ⟨p, c, rfl⟩ := hv.shape
  clear hv
  go_enter Try.func33, Try.ntmps33
  go_wp2_with (first
    | (go_at_call 47; refine (HC.out _ (Bel.refl _)).mono ?_; rintro e w1 ⟨x, rfl, hown, hbel⟩; have O1 := Lib.hid hown; have B1 := Lib.hid hbel; clear hown hbel)
    | (go_at_call 27; refine (HD.out _ _ O1.out.isl).mono ?_; rintro e w2 ⟨y, rfl, hown, hbel⟩; have O2 := Lib.hid hown; have B2 := Lib.hid hbel; clear hown hbel))
  go_ret
  exact ⟨_, rfl, own_base O2.out B1.out.size, B1.out.trans B2.out⟩
end Go.Proofs.Ytdjgpbanokdnhaa.Pt
