/- What adding leaves of a ledger: what ShelfFences asks for. -/
import Derived.Test.YtpmogoknkehlnaaYShWas
namespace Go.Proofs.Ytpmogoknkehlnaa
open Go.RowKit

theorem oS_marks {S : Nd9} {l b : List Nat} {room i k s : Nat} {d : List Nat} {o : Option Nat} : ((oS S l room o b i (addL (S i) k s d)) i).gone = (S i).gone ∧ ((oS S l room o b i (addL (S i) k s d)) i).fen = (S i).fen := by
  rcases @oS_own S l b room i o (addL (S i) k s d) with h | h <;> rw [h] <;> exact ⟨rfl, rfl⟩
theorem oL_le {l b : List Nat} {room : Nat} {o : Option Nat} : (oL l room o b).length ≤ l.length + (b.length + 8) := by
  unfold oL jl
  split
  · split
    · rw [List.length_append, fr_length]; omega
    · omega
  · omega
/-- All that a ledger has stays. -/
def Stays (x y : Lg) : Prop := ∀ k d, lookE x.ents k = some d → lookE y.ents k = some d
theorem Stays.refl (x : Lg) : Stays x x := fun _ _ h => h
theorem Stays.trans {x y z : Lg} (h : Stays x y) (k : Stays y z) : Stays x z := fun j d e => k j d (h j d e)
theorem stays_add {S : Nd9} {l b : List Nat} {room i k s : Nat} {d : List Nat} {m : Bool} : Stays (S i) ((oS S l room (addO S i k s d m) b i (addL (S i) k s d)) i) := by
  cases ho : addO S i k s d m with
  | some c => rw [oS_some]; exact Stays.refl _
  | none =>
    rcases @oS_own S l b room i none (addL (S i) k s d) with h | h <;> rw [h]
    · exact Stays.refl _
    · intro j e he
      rw [show (addL (S i) k s d).ents = putE (S i).ents k d from rfl, lookE_put]
      by_cases hj : j = k
      · rw [if_pos hj]
        subst hj
        unfold addO at ho
        rw [he] at ho
        by_cases h0 : i = 0
        · rw [if_pos h0] at ho; cases ho
        · rw [if_neg h0] at ho
          by_cases h1 : 256 < d.length
          · rw [if_pos h1] at ho; cases ho
          · rw [if_neg h1] at ho
            by_cases h2 : (S i).gone = true
            · rw [if_pos h2] at ho; cases ho
            · rw [if_neg h2] at ho
              by_cases h3 : ((S i).fen && !m) = true
              · rw [if_pos h3] at ho; cases ho
              · rw [if_neg h3] at ho
                dsimp only at ho
                by_cases h4 : e = d
                · rw [h4]
                · rw [if_neg h4] at ho; cases ho
      · rw [if_neg hj]; exact he
theorem same_add {S : Nd9} {l b : List Nat} {room i k s : Nat} {d : List Nat} {x : Lg} (hi : i ≠ 0) (hg : (S i).gone = false) (hf : (S i).fen = true) : oS S l room (addO S i k s d false) b i x = S := by
  have : ∃ c, addO S i k s d false = some c := by
    unfold addO
    rw [if_neg hi, hg, hf]
    by_cases h1 : 256 < d.length
    · rw [if_pos h1]; exact ⟨_, rfl⟩
    · rw [if_neg h1, if_neg (by decide), if_pos (by decide)]; exact ⟨_, rfl⟩
  obtain ⟨c, hc⟩ := this
  rw [hc, oS_some]
/-- A fence that fits. -/
theorem fence_fits {S : Nd9} {l : List Nat} {room : Nat} (hg : (S 7).gone = false) (hf : (S 7).fen = false) (hl : l.length + 17 ≤ room) :
    oE l room (fenO S 7) (recW 2 7) = 0 ∧ oS S l room (fenO S 7) (recW 2 7) 7 (fenL (S 7)) = updS S 7 (fenL (S 7)) := by
  have ho : fenO S 7 = none := by
    unfold fenO
    rw [if_neg (by decide), hg, hf, if_neg (by decide), if_neg (by decide)]
  have h1 := recW_len 2 7
  rw [ho]
  exact ⟨oE_zero (by omega) (by omega), oS_done (by omega) (by omega)⟩
/-- What was listed is there. -/
theorem listed {X : List Ix} {x : Lg} (hX : its X = x.ents) (hr : RiseE x.ents) {i : Nat} (hi : i < X.length) : lookE x.ents (X.getD i default).t.1 = some (X.getD i default).t.2 := by
  have hi2 : i < x.ents.length := by rw [← hX, its_length]; exact hi
  have h1 := lookE_at hr hi2
  have h2 : x.ents.getD i (0, []) = (X.getD i default).t := by
    rw [← hX]
    unfold its
    simp [hi]
  rw [h2] at h1
  exact h1
end Go.Proofs.Ytpmogoknkehlnaa
