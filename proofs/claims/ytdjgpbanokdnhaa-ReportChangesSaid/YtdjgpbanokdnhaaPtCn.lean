/-
  The reference's counting as plain data.
-/
import Derived.Test.YtdjgpbanokdnhaaPtWn
namespace Go.Proofs.Ytdjgpbanokdnhaa.Pt
open Go.RowKit
attribute [local go_sem ↓] Go.wp_at_zero Go.wp_at_succ

/-- Those of the first k reports of s that count. -/
def ck (s : List Rep) (k : Nat) : List Rep := (s.take k).filter fun r => winB s r && !r.cn
theorem ck_len (s : List Rep) (k : Nat) : (ck s k).length ≤ s.length := Nat.le_trans (List.length_filter_le _ _) (by rw [List.length_take]; omega)
theorem ck_next (s : List Rep) (k : Nat) (h : k < s.length) : ck s (k + 1) = if (winB s s[k]! && !s[k]!.cn) = true then ck s k ++ [s[k]!] else ck s k := by
  unfold ck
  rw [List.take_succ_eq_append_getElem h, List.filter_append, getElem!_pos s k h]
  split <;> simp_all
theorem ck_all (l : List Rep) : ck (setL l) (setL l).length = cntL l := by
  unfold ck cntL
  rw [List.take_length]
  refine List.filter_congr fun r _ => ?_
  rw [winB_congr (fun q => setL_mem l q) r]

end Go.Proofs.Ytdjgpbanokdnhaa.Pt
