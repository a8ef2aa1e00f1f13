/- Bytes read as cursors. Mathematics. -/
import Derived.Test.YtghadpihmhaepaaDCqWrite
import Derived.Test.YtghadpihmhaepaaCC
namespace Go.Proofs.Ytghadpihmhaepaa
open Go.RowKit
set_option maxRecDepth 100000

def pW (k : Nat) (l : List Nat) : Option (Nat × List Nat) := if l.length < k then none else some (val (l.take k), l.drop k)
def pMany {α : Type} (p : List Nat → Option (α × List Nat)) : Nat → List Nat → Option (List α × List Nat)
  | 0, l => some ([], l)
  | n + 1, l => (p l).bind fun a => (pMany p n a.2).bind fun b => some (a.1 :: b.1, b.2)
def pRg (l : List Nat) : Option (Rg × List Nat) := (pW 8 l).bind fun a => (pW 8 a.2).bind fun b => some ((a.1, b.1), b.2)
def pHel (l : List Nat) : Option (Hel × List Nat) := (pW 8 l).bind fun a => (pW 2 a.2).bind fun b => (pMany pRg b.1 b.2).bind fun c => some ((a.1, c.1), c.2)
def pCrs (l : List Nat) : Option (Crs × List Nat) := (pW 8 l).bind fun a => (pW 8 a.2).bind fun b => (pW 2 b.2).bind fun c => (pMany pHel c.1 c.2).bind fun d => some (⟨⟨a.1, b.1⟩, d.1⟩, d.2)
theorem pMany_snoc {α : Type} (p : List Nat → Option (α × List Nat)) : ∀ (i : Nat) (l : List Nat), pMany p (i + 1) l = (pMany p i l).bind fun a => (p a.2).bind fun b => some (a.1 ++ [b.1], b.2)
  | 0, l => by
    simp only [pMany, Option.bind_some]
    cases p l <;> simp
  | i + 1, l => by
    rw [pMany]
    conv => rhs; rw [pMany]
    cases hp : p l with
    | none => rfl
    | some a =>
      simp only [Option.bind_some]
      rw [pMany_snoc p i a.2]
      cases pMany p i a.2 with
      | none => rfl
      | some b =>
        simp only [Option.bind_some]
        cases p b.2 with
        | none => rfl
        | some c => simp
theorem pMany_fail {α : Type} {p : List Nat → Option (α × List Nat)} {i : Nat} {l : List Nat} (h : pMany p i l = none) : ∀ d, pMany p (i + d) l = none
  | 0 => h
  | d + 1 => by rw [show i + (d + 1) = (i + d) + 1 by omega, pMany_snoc, pMany_fail h d]; rfl
theorem pMany_cut {α : Type} {p : List Nat → Option (α × List Nat)} {i n : Nat} {l m : List Nat} {X : List α} (h : pMany p i l = some (X, m)) (hi : i < n) (hp : p m = none) : pMany p n l = none := by
  have h1 : pMany p (i + 1) l = none := by rw [pMany_snoc, h]; simp [hp]
  have := pMany_fail h1 (n - (i + 1))
  rwa [show i + 1 + (n - (i + 1)) = n by omega] at this
theorem pMany_step {α : Type} {p : List Nat → Option (α × List Nat)} {i : Nat} {l m m' : List Nat} {X : List α} {x : α} (h : pMany p i l = some (X, m)) (hp : p m = some (x, m')) : pMany p (i + 1) l = some (X ++ [x], m') := by
  rw [pMany_snoc, h]; simp [hp]
theorem pMany_enc {α : Type} {p : List Nat → Option (α × List Nat)} {f : α → List Nat} : ∀ (X : List α) (l : List Nat), (∀ x ∈ X, ∀ l, p (f x ++ l) = some (x, l)) → pMany p X.length (X.flatMap f ++ l) = some (X, l)
  | [], l, _ => rfl
  | x :: X, l, h => by
    rw [List.length_cons, pMany, List.flatMap_cons, List.append_assoc, h x (by simp)]
    simp only [Option.bind_some]
    rw [pMany_enc X l (fun y hy => h y (by simp [hy]))]
    rfl
theorem pW_be (k n : Nat) (l : List Nat) (hn : n < 256 ^ k) : pW k (be k n ++ l) = some (n, l) := by
  unfold pW
  have h1 := be_length k n
  rw [if_neg (by rw [List.length_append]; omega), List.take_append_of_le_length (by omega), List.take_of_length_le (by omega), List.drop_append_of_le_length (by omega), List.drop_of_length_le (by omega)]
  simp [val_be k n hn]
theorem pRg_enc (r : Rg) (l : List Nat) (h1 : r.1 < 18446744073709551616) (h2 : r.2 < 18446744073709551616) : pRg (encRg r ++ l) = some (r, l) := by
  unfold pRg encRg
  rw [List.append_assoc, pW_be 8 _ _ (by omega)]
  simp only [Option.bind_some]
  rw [pW_be 8 _ _ (by omega)]
  rfl
theorem pHel_enc (h : Hel) (l : List Nat) (h1 : h.1 < 18446744073709551616) (h2 : h.2.length < 65536) (h3 : ∀ r ∈ h.2, r.1 < 18446744073709551616 ∧ r.2 < 18446744073709551616) : pHel (encHel h ++ l) = some (h, l) := by
  unfold pHel encHel
  rw [List.append_assoc, List.append_assoc, pW_be 8 _ _ (by omega)]
  simp only [Option.bind_some]
  rw [pW_be 2 _ _ (by omega)]
  simp only [Option.bind_some]
  rw [pMany_enc h.2 l (fun r hr l => pRg_enc r l (h3 r hr).1 (h3 r hr).2)]
  rfl
theorem pCrs_enc (c : Crs) (l : List Nat) (h1 : c.mark.fits) (h2 : c.held.length < 65536) (h3 : ∀ h ∈ c.held, h.1 < 18446744073709551616 ∧ h.2.length < 65536 ∧ ∀ r ∈ h.2, r.1 < 18446744073709551616 ∧ r.2 < 18446744073709551616) : pCrs (encCrs c ++ l) = some (c, l) := by
  unfold pCrs encCrs
  have h4 := h1.1
  have h5 := h1.2
  rw [List.append_assoc, List.append_assoc, List.append_assoc, pW_be 8 _ _ (by omega)]
  simp only [Option.bind_some]
  rw [pW_be 8 _ _ (by omega)]
  simp only [Option.bind_some]
  rw [pW_be 2 _ _ (by omega)]
  simp only [Option.bind_some]
  rw [pMany_enc c.held l (fun h hh l => pHel_enc h l (h3 h hh).1 (h3 h hh).2.1 (h3 h hh).2.2)]
  rfl
/-- What bytes say: a code, a cursor. -/
def DecC (l : List Nat) (code : Nat) (c : Crs) : Prop :=
  (pCrs l = none ∧ code = 4 ∧ c = ⟨⟨0, 0⟩, []⟩) ∨ (∃ C m, pCrs l = some (C, m) ∧ ¬ OkC C ∧ code = 23 ∧ c = ⟨⟨0, 0⟩, []⟩) ∨ (∃ C m, pCrs l = some (C, m) ∧ OkC C ∧ m ≠ [] ∧ code = 5 ∧ c = ⟨⟨0, 0⟩, []⟩) ∨ (∃ C, pCrs l = some (C, []) ∧ OkC C ∧ code = 0 ∧ c = C)
theorem DecC.uniq {l : List Nat} {x y : Nat} {c d : Crs} (h : DecC l x c) (k : DecC l y d) : x = y ∧ c = d := by
  rcases h with ⟨h1, rfl, rfl⟩ | ⟨C, m, h1, h2, rfl, rfl⟩ | ⟨C, m, h1, h2, h3, rfl, rfl⟩ | ⟨C, h1, h2, rfl, rfl⟩ <;>
  rcases k with ⟨k1, rfl, rfl⟩ | ⟨C', m', k1, k2, rfl, rfl⟩ | ⟨C', m', k1, k2, k3, rfl, rfl⟩ | ⟨C', k1, k2, rfl, rfl⟩ <;>
  simp_all
end Go.Proofs.Ytghadpihmhaepaa
