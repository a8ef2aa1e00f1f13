/- More is heard, more is there: mathematics; Hear in one word. -/
import Derived.Test.YtecfoomjpjcldaaMdRes
import Derived.Test.YtecfoomjpjcldaaMapV
import Derived.Test.YtecfoomjpjcldaaStr
namespace Go.Proofs.Ytecfoomjpjcldaa
open Go.RowKit
/-- The bytes as texts. -/
def strM (f : Nat → Option (List Nat)) : Nat → Option Value := fun k => (f k).map fun d => .string (strOf d)
def putM (g : Nat → Option Value) (x : Nat × List Nat) : Nat → Option Value := updV g x.1 (.string (strOf x.2))
theorem fold_join {l : List (Nat × List Nat)} : ∀ {f f' : Nat → Option (List Nat)}, joinF f l = some f' → l.foldl putM (strM f) = strM f' := by
  induction l with
  | nil => intro f f' h; simp only [joinF, Option.some.injEq] at h; subst h; rfl
  | cons x l ih =>
    intro f f' h
    obtain ⟨k, d⟩ := x
    simp only [joinF] at h
    rw [List.foldl_cons]
    cases hk : f k with
    | none =>
      rw [hk] at h
      rw [← ih h]
      congr 1
      funext j
      simp only [putM, updV, strM]
      by_cases hj : j = k
      · simp [hj]
      · simp [hj]
    | some y =>
      rw [hk] at h
      simp only at h
      by_cases hy : y = d
      · subst hy
        rw [if_pos rfl] at h
        rw [← ih h]
        congr 1
        funext j
        simp only [putM, updV, strM]
        by_cases hj : j = k
        · simp [hj, hk]
        · simp [hj]
      · rw [if_neg hy] at h; cases h
theorem ResV.more {P W A : Nat} {h h' : Nat → Bool} {f f' : Nat → Option (List Nat)} {c c' : Nat} {l l' : List (Nat × List Nat)} (hP : 0 < P) (r : ResV P W A h 0 f c l) (r' : ResV P W A h' 0 f' c' l') (h7 : P ≤ 7) (hh : ∀ j, h j = true → h' j = true) (hf : ∀ k d, f k = some d → f' k = some d) :
    l.length ≤ l'.length ∧ l'.take l.length = l := by
  rcases r with ⟨_, _, rfl⟩ | ⟨h1, k, hk, ⟨h3, _, rfl⟩ | ⟨_, _, rfl⟩⟩
  · exact ⟨Nat.zero_le _, rfl⟩
  · omega
  · have h2 : covN P W A (hrdL h') = true := cov_more hP (fun p hp hx => by
      rw [hrdL_at _ _ (by omega)] at hx ⊢; exact hh p hx) h1
    rcases r' with ⟨h4, _⟩ | ⟨_, k', hk', ⟨h5, _⟩ | ⟨_, _, rfl⟩⟩
    · rw [h2] at h4; cases h4
    · omega
    · have hkk : k ≤ k' := by
        rcases Nat.lt_or_ge k' k with h6 | h6
        · have h7 := hk.1 k' h6
          cases hd : f k' with
          | none => exact absurd hd h7
          | some d => have := hf _ _ hd; rw [hk'.2] at this; cases this
        · exact h6
      rw [rowN_len, rowN_len]
      refine ⟨hkk, ?_⟩
      unfold rowN
      rw [← List.map_take, List.take_range, Nat.min_eq_left hkk]
      refine List.map_congr_left fun j hj => ?_
      have h8 := hk.1 j (List.mem_range.1 hj)
      cases hd : f j with
      | none => exact absurd hd h8
      | some d => rw [hf _ _ hd]
theorem ResV.ok {P W A : Nat} {h : Nat → Bool} {f : Nat → Option (List Nat)} {c : Nat} {l : List (Nat × List Nat)} (r : ResV P W A h 0 f c l) : ((c : Int) == 0) = covN P W A (hrdL h) ∧ c ≤ 23 := by
  rcases r with ⟨h1, rfl, _⟩ | ⟨h1, k, _, ⟨h3, _⟩ | ⟨_, rfl, _⟩⟩
  · rw [h1]; exact ⟨rfl, by omega⟩
  · omega
  · rw [h1]; exact ⟨rfl, by omega⟩
theorem ResV.has {P W A : Nat} {h : Nat → Bool} {su : Nat} {f : Nat → Option (List Nat)} {c : Nat} {l : List (Nat × List Nat)} (r : ResV P W A h su f c l) {i : Nat} (hi : i < l.length) : ∃ d, f i = some d ∧ l[i]? = some (i, d) := by
  rcases r with ⟨_, _, rfl⟩ | ⟨h1, k, hk, ⟨_, _, rfl⟩ | ⟨_, _, rfl⟩⟩
  · cases hi
  · cases hi
  · rw [rowN_len] at hi
    cases hd : f i with
    | none => exact absurd hd (hk.1 i hi)
    | some d => exact ⟨d, rfl, by simp [rowN, hi, hd]⟩
/-- Hear, whatever it answers. -/
theorem hear_u {w : World} {p : Nat} {F G : List Nat} {P W A : Nat} {h : Nat → Bool} {su : Nat} {t : Tn} (pl sr : Nat) (a : Option Addr) (n c : Nat) (X : List Ix) (m : Md w p F P W A h su t) (hsr : sr ≤ 1048576) (hpl : pl < P) (hX : IL w G a X) (hn : n = X.length) (hfit : ∀ x ∈ X, x.t.2.length ≤ 140737488355328) (hn63 : n ≤ 140737488355328) (hF : ∀ x ∈ F, x < w.heap.size) :
    Calls Try.prog 26 #[.pointer (some ⟨p, 0, none⟩), .int .i64 (pl : Nat), .int .u64 (sr : Nat), .slice a n c] w fun e w' =>
      ∃ (ok : Bool) (code : Nat) (h' : Nat → Bool) (su' : Nat) (t' : Tn), e = .returned (.int .i64 (code : Nat)) ∧ ((code : Int) == 0) = ok ∧ Frm [p] w w' ∧ Md w' p F P W A h' su' t' ∧
        (ok = true → joinT t (its X) = some t' ∧ h' = hrd h pl ∧ su' = max su sr) ∧ (ok = false → joinT t (its X) = none ∧ code = 21 ∧ t' = t ∧ h' = h ∧ su' = su) := by
  refine (hear_any (pl : Int) sr a n c X m (by omega) hX hn hfit hn63 hF).mono ?_
  rintro e w' (⟨hb, rfl, hf⟩ | ⟨pn, hpn, _, _, ⟨hno, rfl, hf⟩ | ⟨t', hyes, rfl, hf, hm⟩⟩)
  · omega
  · exact ⟨false, 21, h, su, t, rfl, rfl, hf.weak (by simp), m.here hf, (fun h => by cases h), fun _ => ⟨hno, rfl, rfl, rfl, rfl⟩⟩
  · obtain rfl : pl = pn := by omega
    exact ⟨true, 0, _, _, t', rfl, rfl, hf, hm, fun _ => ⟨hyes, rfl, rfl⟩, fun h => by cases h⟩
section
variable {P : Program} {t e : TypeId}
theorem run_head2 (ht : P.underlying t = some (.slice e)) (hz : ∀ w, (Go.sizeOf e).run P w = .ok 2 w) (w : World) (a : Option Addr) (n cap hi : Nat) (h2 : hi ≤ cap) :
    (Instr.slice t (.slice a n cap) none (some (.int .i64 (hi : Nat))) none).run P w = .ok (.slice a hi cap) w := by
  have ht' : P.underlying t = some (.slice (P.elem t)) := by simp [Program.elem, ht]
  have he : P.elem t = e := by simp [Program.elem, ht]
  rw [run_slice_h w t _ _ _ ht' .i64 _ (by omega) (by omega), he, hz]
  have := head_map a
  simp [Result.andThen, sliced, this]
end
end Go.Proofs.Ytecfoomjpjcldaa
