/- Plain arithmetic of CrcBursts: bytes with their sum behind them, some bits turned within 32 side by side: the sum is that of the bytes just if none was turned. No condition. -/
import Derived.Test.YtmbhmjhjfekcfaaCrcBits
namespace Go.Proofs.Ytmbhmjhjfekcfaa

theorem ext_getD (a b : List Nat) (h : a.length = b.length) (k : ∀ i, i < a.length → a.getD i 0 = b.getD i 0) : a = b := by
  apply List.ext_getElem h
  intro i h1 h2
  have := k i h1
  simpa [h1, h2] using this
theorem getD_range (f : Nat → Nat) (n i : Nat) (h : i < n) : ((List.range n).map f).getD i 0 = f i := by simp [h]
theorem take_range (f : Nat → Nat) (n m : Nat) (h : m ≤ n) : ((List.range n).map f).take m = (List.range m).map f := by
  rw [← List.map_take, List.take_range, Nat.min_eq_left h]
theorem xorL_range (b : List Nat) (f : Nat → Nat) (n : Nat) (h : b.length = n) : xorL b ((List.range n).map f) = (List.range n).map fun j => b.getD j 0 ^^^ f j := by
  have hl : (xorL b ((List.range n).map f)).length = n := by rw [xorL_length _ _ (by simp [h]), h]
  apply ext_getD
  · rw [hl]; simp
  · intro i hi
    rw [hl] at hi
    rw [xorL_getD _ _ _ (by simp [h]), getD_range _ _ _ hi, getD_range _ _ _ hi]
/-- A sum's four bytes, the lowest first. -/
def le4 (s : Nat) : List Nat := [s % 256, s / 256 % 256, s / 65536 % 256, s / 16777216]
/-- The bytes with bits turned. -/
def turnedRow (L : List Nat) (e : Nat → Bool) (n : Nat) : List Nat := (List.range n).map fun j => L.getD j 0 ^^^ bo e (8 * j) 8
def told4 (a b c d : Nat) : Nat := 256 * (256 * (256 * d + c) + b) + a

theorem told_turned (s n : Nat) (e : Nat → Bool) (hs : s < 4294967296) :
    told4 (s % 256 ^^^ bo e (8 * n) 8) (s / 256 % 256 ^^^ bo e (8 * (n + 1)) 8) (s / 65536 % 256 ^^^ bo e (8 * (n + 2)) 8) (s / 16777216 ^^^ bo e (8 * (n + 3)) 8) = s ^^^ bo e (8 * n) 32 := by
  have hb : ∀ j, bo e j 8 < 2 ^ 8 := fun j => bo_lt e j 8
  have e1 : bo e (8 * n) 32 = 2 ^ 8 * (2 ^ 8 * (2 ^ 8 * bo e (8 * (n + 3)) 8 + bo e (8 * (n + 2)) 8) + bo e (8 * (n + 1)) 8) + bo e (8 * n) 8 := by
    rw [show 32 = 8 + (8 + (8 + 8)) from rfl, bo_add, bo_add, bo_add]
    rw [show 8 * n + 8 = 8 * (n + 1) by omega, show 8 * (n + 1) + 8 = 8 * (n + 2) by omega, show 8 * (n + 2) + 8 = 8 * (n + 3) by omega]
  have e2 : s = 2 ^ 8 * (2 ^ 8 * (2 ^ 8 * (s / 16777216) + s / 65536 % 256) + s / 256 % 256) + s % 256 := by omega
  generalize hA : s % 256 = A at *
  generalize hB : s / 256 % 256 = B at *
  generalize hC : s / 65536 % 256 = C at *
  generalize hD : s / 16777216 = D at *
  rw [e1, e2, join_xor 8 _ _ _ _ (by omega) (hb _), join_xor 8 _ _ _ _ (by omega) (hb _), join_xor 8 _ _ _ _ (by omega) (hb _)]
  rfl

theorem burst (b : List Nat) (n k word : Nat) (hn : n = b.length) (h8 : ∀ c ∈ b, c < 256) (hk : k ≤ 8 * (n + 4)) :
    (sumN ((turnedRow (b ++ le4 (sumN b)) (laid k word 32) (n + 4)).take n) =
      told4 ((turnedRow (b ++ le4 (sumN b)) (laid k word 32) (n + 4)).getD n 0) ((turnedRow (b ++ le4 (sumN b)) (laid k word 32) (n + 4)).getD (n + 1) 0)
        ((turnedRow (b ++ le4 (sumN b)) (laid k word 32) (n + 4)).getD (n + 2) 0) ((turnedRow (b ++ le4 (sumN b)) (laid k word 32) (n + 4)).getD (n + 3) 0))
      ↔ ∀ t, t < 32 → k + t < 8 * (n + 4) → word.testBit t = false := by
  have hs := sumN_lt h8
  obtain ⟨s, hsn⟩ : ∃ s, s = sumN b := ⟨_, rfl⟩
  rw [← hsn] at hs ⊢
  obtain ⟨e, he⟩ : ∃ e, e = laid k word 32 := ⟨_, rfl⟩
  rw [← rb_laid k word (8 * (n + 4)) hk, ← he]
  have g : ∀ q, q < 4 → (b ++ le4 s).getD (n + q) 0 = (le4 s).getD q 0 := by
    intro q hq
    simp [List.getElem?_append_right, hn]
  have g0 : (b ++ le4 s).getD n 0 = (le4 s).getD 0 0 := g 0 (by omega)
  have take : (turnedRow (b ++ le4 s) e (n + 4)).take n = xorL b (rowOf e n) := by
    unfold turnedRow rowOf
    rw [take_range _ _ _ (by omega), xorL_range _ _ _ hn.symm]
    apply List.map_congr_left
    intro j hj
    have hj' : j < b.length := by rw [← hn]; simpa using hj
    simp [List.getElem?_append_left hj']
  have told : told4 ((turnedRow (b ++ le4 s) e (n + 4)).getD n 0) ((turnedRow (b ++ le4 s) e (n + 4)).getD (n + 1) 0) ((turnedRow (b ++ le4 s) e (n + 4)).getD (n + 2) 0) ((turnedRow (b ++ le4 s) e (n + 4)).getD (n + 3) 0) = s ^^^ bo e (8 * n) 32 := by
    unfold turnedRow
    rw [getD_range _ _ _ (by omega), getD_range _ _ _ (by omega), getD_range _ _ _ (by omega), getD_range _ _ _ (by omega), g0, g 1 (by omega), g 2 (by omega), g 3 (by omega)]
    exact told_turned s n e hs
  have sum : sumN (xorL b (rowOf e n)) = s ^^^ fedAll 0 (rowOf e n) := by
    have h1 := fedAll_xor b (rowOf e n) 4294967295 0 (by unfold rowOf; simp [hn])
    have z : inv32 0 = 4294967295 := by decide
    rw [hsn]
    unfold sumN moreN
    rw [z]
    rw [Nat.xor_zero] at h1
    rw [h1]
    unfold inv32
    rw [Nat.xor_assoc, Nat.xor_comm (fedAll 0 _), ← Nat.xor_assoc]
  rw [take, told, sum, fedAll_row]
  have hlt : rb 0 e 0 (8 * n) < 4294967296 := by
    rw [rb_eq]
    rw [← rb_eq, ← fedAll_row]
    exact fedAll_lt _ (by omega) (by
      intro c hc
      unfold rowOf at hc
      obtain ⟨j, _, rfl⟩ := List.mem_map.1 hc
      exact bo_lt e (8 * j) 8)
  have hend : rb 0 e 0 (8 * (n + 4)) = stps 32 (rb 0 e 0 (8 * n) ^^^ bo e (8 * n) 32) := by
    rw [show 8 * (n + 4) = 8 * n + 32 by omega, rb_add, Nat.zero_add, rb_eq (rb 0 e 0 (8 * n))]
  rw [hend]
  generalize rb 0 e 0 (8 * n) = r at *
  have hb : bo e (8 * n) 32 < 4294967296 := bo_lt e (8 * n) 32
  generalize bo e (8 * n) 32 = t at *
  constructor
  · intro h
    have : r = t := by
      have := congrArg (s ^^^ ·) h
      simpa [← Nat.xor_assoc] using this
    rw [this, Nat.xor_self, stps_zero]
  · intro h
    have h0 := stps_eq_zero 32 (xor_lt hlt hb) h
    have : r = t := by
      have := congrArg (· ^^^ t) h0
      simpa [Nat.xor_assoc] using this
    rw [this]

/-! ### Round by round -/
theorem turnedRow_length (L : List Nat) (e : Nat → Bool) (n : Nat) : (turnedRow L e n).length = n := by simp [turnedRow]
theorem turnedRow_getD (L : List Nat) (e : Nat → Bool) (n j : Nat) (h : j < n) : (turnedRow L e n).getD j 0 = L.getD j 0 ^^^ bo e (8 * j) 8 := getD_range _ n j h
theorem turnedRow_same (L : List Nat) (e f : Nat → Bool) (n : Nat) (h : ∀ p, p < 8 * n → e p = f p) : turnedRow L e n = turnedRow L f n := by
  apply ext_getD
  · rw [turnedRow_length, turnedRow_length]
  · intro j hj
    rw [turnedRow_length] at hj
    rw [turnedRow_getD _ _ _ _ hj, turnedRow_getD _ _ _ _ hj, bo_same e f (8 * j) 8 fun t ht => h _ (by omega)]
theorem laid_succ (k word m p : Nat) (h : p ≠ k + m ∨ word.testBit m = false) : laid k word (m + 1) p = laid k word m p := by
  unfold laid
  by_cases hk : k ≤ p
  · by_cases he : p = k + m
    · subst he
      have ht : word.testBit m = false := by
        rcases h with h | h
        · exact absurd rfl h
        · exact h
      simp [ht]
    · have h1 : (p < k + (m + 1)) ↔ (p < k + m) := by omega
      simp only [h1]
  · simp [hk]
theorem turned_none (L : List Nat) (n : Nat) (k word : Nat) : turnedRow L (laid k word 0) n = (List.range n).map fun j => L.getD j 0 := by
  unfold turnedRow
  apply List.map_congr_left
  intro j _
  rw [(bo_zero_iff _ _ _).2, Nat.xor_zero]
  intro t _
  simp [laid]; omega
theorem turned_start (L : List Nat) (n : Nat) (k word : Nat) (h : L.length = n) : turnedRow L (laid k word 0) n = L := by
  rw [turned_none]
  apply ext_getD
  · simp [h]
  · intro i hi
    exact getD_range _ n i (by simpa using hi)
theorem turned_no (L : List Nat) (n : Nat) (k word m : Nat) (h : word.testBit m = false ∨ 8 * n ≤ k + m) : turnedRow L (laid k word (m + 1)) n = turnedRow L (laid k word m) n :=
  turnedRow_same _ _ _ _ fun p hp => laid_succ _ _ _ _ (by
    rcases h with h | h
    · exact .inr h
    · exact .inl (by omega))
theorem getD_set_self (l : List Nat) (i v : Nat) (h : i < l.length) : (l.set i v).getD i 0 = v := by simp [h]
theorem getD_set_ne (l : List Nat) (i j v : Nat) (h : i ≠ j) : (l.set i v).getD j 0 = l.getD j 0 := by simp [h]
theorem turned_yes (L : List Nat) (n : Nat) (k word m : Nat) (h : word.testBit m = true) (hp : k + m < 8 * n) :
    turnedRow L (laid k word (m + 1)) n = (turnedRow L (laid k word m) n).set ((k + m) / 8) ((turnedRow L (laid k word m) n).getD ((k + m) / 8) 0 ^^^ 2 ^ ((k + m) % 8)) := by
  have hj0 : (k + m) / 8 < n := by omega
  apply ext_getD
  · rw [List.length_set, turnedRow_length, turnedRow_length]
  · intro j hj
    rw [turnedRow_length] at hj
    rw [turnedRow_getD _ _ _ _ hj]
    by_cases he : j = (k + m) / 8
    · subst he
      rw [getD_set_self _ _ _ (by rw [turnedRow_length]; exact hj), turnedRow_getD _ _ _ _ hj, Nat.xor_assoc]
      congr 1
      have hpl : 8 * ((k + m) / 8) + (k + m) % 8 = k + m := by omega
      apply bo_flip
      · omega
      · rw [hpl]; simp [laid]
      · rw [hpl]; simp [laid, h]
      · intro s _ hs
        exact (laid_succ _ _ _ _ (.inl (by omega))).symm
    · rw [getD_set_ne _ _ _ _ (by omega), turnedRow_getD _ _ _ _ hj]
      congr 1
      exact bo_same _ _ _ _ fun t ht => laid_succ _ _ _ _ (.inl (by omega))
/-- Was a bit turned in the first so many rounds? -/
def turnedBy (k word m : Nat) : Nat → Bool
  | 0 => false
  | i + 1 => turnedBy k word m i || (word.testBit i && decide (k + i < m))
theorem turnedBy_false (k word m : Nat) (i : Nat) : turnedBy k word m i = false ↔ ∀ t, t < i → k + t < m → word.testBit t = false := by
  induction i with
  | zero => simp [turnedBy]
  | succ i ih =>
    simp only [turnedBy, Bool.or_eq_false_iff, ih]
    constructor
    · rintro ⟨h1, h2⟩ t ht hm
      rcases Nat.lt_or_ge t i with h | h
      · exact h1 t h hm
      · have : t = i := by omega
        subst this
        simpa [hm] using h2
    · intro h
      refine ⟨fun t ht hm => h t (by omega) hm, ?_⟩
      by_cases hm : k + i < m
      · simp [h i (by omega) hm]
      · simp [hm]
theorem turnedRow_lt (L : List Nat) (e : Nat → Bool) (n : Nat) (h : ∀ c ∈ L, c < 256) : ∀ c ∈ turnedRow L e n, c < 256 := by
  intro c hc
  unfold turnedRow at hc
  obtain ⟨j, _, rfl⟩ := List.mem_map.1 hc
  refine Nat.xor_lt_two_pow (n := 8) ?_ (bo_lt e (8 * j) 8)
  by_cases hi : j < L.length
  · have e : L.getD j 0 = L[j] := by simp [hi]
    rw [e]; exact h _ (List.getElem_mem hi)
  · have e : L.getD j 0 = 0 := by simp [Nat.le_of_not_lt hi]
    omega
end Go.Proofs.Ytmbhmjhjfekcfaa
