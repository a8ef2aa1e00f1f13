/- A bundle that is split, again, and joined: what is answered. -/
import Derived.Test.YtbdgmpfdcmmfhaaDoorBmHash
namespace Go.Proofs.YtbdgmpfdcmmfhaaDoor
open Go.RowKit
set_option maxRecDepth 100000

theorem spl_again {L : List Nat} {x : Int} (h : splC (Bf L) x = 0) : splC (splF (Bf L) x) x = 12 ∧ splF (splF (Bf L) x) x = splF (Bf L) x ∧ joinC (splF (Bf L) x) x = 0 ∧ joinF (splF (Bf L) x) x = Bf L := by
  have hr : ¬ (x < 1 ∨ 65535 < x) := fun hc => by unfold splC at h; rw [if_pos hc] at h; cases h
  have hn : Bf L x.toNat = false := by
    cases e : Bf L x.toNat with
    | false => rfl
    | true => unfold splC at h; rw [if_neg hr, if_pos e] at h; cases h
  have e1 : splF (Bf L) x = fun i => if i = x.toNat then true else Bf L i := by unfold splF; rw [if_pos h]
  have e2 : splF (Bf L) x x.toNat = true := by rw [e1]; simp
  have c1 : splC (splF (Bf L) x) x = 12 := by
    unfold splC
    rw [if_neg hr, if_pos e2]
  have c2 : joinC (splF (Bf L) x) x = 0 := by
    unfold joinC
    rw [if_neg hr, if_pos e2]
  refine ⟨c1, ?_, c2, ?_⟩
  · show (if splC (splF (Bf L) x) x = 0 then _ else splF (Bf L) x) = _
    rw [c1]; rfl
  · show (if joinC (splF (Bf L) x) x = 0 then (fun i => if i = x.toNat then false else splF (Bf L) x i) else splF (Bf L) x) = _
    rw [if_pos c2]
    funext i
    by_cases hi : i = x.toNat
    · rw [if_pos hi, hi, hn]
    · rw [if_neg hi, e1]; simp only; rw [if_neg hi]
theorem spl_none {L : List Nat} {x : Int} (h : splC (Bf L) x ≠ 0) : splF (Bf L) x = Bf L := by unfold splF; rw [if_neg h]
/-- The bundle of a hash where one begins. -/
theorem of_begin {L : List Nat} (ok : BmOk L) {t lo hi : Nat} (ht : t < (0 :: L).length) (o : OfP (Bf L) ((0 :: L).getD t 0) lo hi) : lo = (0 :: L).getD t 0 ∧ hi = toB L t ∧ (0 :: L).getD t 0 < toB L t ∧ toB L t ≤ 65536 := by
  have b6 : ∀ x ∈ 0 :: L, x < 65536 := fun x hx => by
    rcases List.mem_cons.1 hx with rfl | h1
    · decide
    · exact (ok.in' x h1).2
  have hlt : (0 :: L).getD t 0 < toB L t := by
    unfold toB
    split
    · rename_i hc
      have := List.pairwise_iff_getElem.1 ok.cons t (t + 1) (by omega) hc (by omega)
      simpa only [List.getD_eq_getElem?_getD, List.getElem?_eq_getElem ht, List.getElem?_eq_getElem hc, Option.getD_some] using this
    · exact b6 _ (getD_mem ht)
  obtain ⟨e1, e2⟩ := o.uniq (ofP_at ok (b6 _ (getD_mem ht)) ht (Nat.le_refl _) hlt)
  refine ⟨e1, e2, hlt, ?_⟩
  unfold toB
  split
  · rename_i hc; exact Nat.le_of_lt (b6 _ (getD_mem hc))
  · exact Nat.le_refl _
/-- The sum of the first bundles' hashes. -/
def sumB (L : List Nat) (t : Nat) : Nat := if t < (0 :: L).length then (0 :: L).getD t 0 else 65536
theorem sumB_succ (L : List Nat) (t : Nat) : sumB L (t + 1) = toB L t := rfl
theorem sumB_at {L : List Nat} {t : Nat} (h : t < (0 :: L).length) : sumB L t = (0 :: L).getD t 0 := if_pos h
theorem sumB_end (L : List Nat) : sumB L (0 :: L).length = 65536 := if_neg (Nat.lt_irrefl _)
end Go.Proofs.YtbdgmpfdcmmfhaaDoor
