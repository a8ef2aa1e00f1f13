/- Plain arithmetic: the register bit by bit; bits that are turned within 32 side by side leave a register that is not 0. No condition. -/
import Derived.Test.YtpamiglinmfgkaaCrcMath
namespace Go.Proofs.Ytpamiglinmfgkaa

/-- So many bits from a place on, as a number, the lowest first. -/
def bo (e : Nat → Bool) (base : Nat) : Nat → Nat
  | 0 => 0
  | m + 1 => bo e base m ^^^ (if e (base + m) then 2 ^ m else 0)
/-- The register behind so many bits. -/
def rb (x : Nat) (e : Nat → Bool) (base : Nat) : Nat → Nat
  | 0 => x
  | m + 1 => stp (rb x e base m ^^^ (if e (base + m) then 1 else 0))

theorem join_testBit (i a b j : Nat) (hb : b < 2 ^ i) : (2 ^ i * a + b).testBit j = if j < i then b.testBit j else a.testBit (j - i) :=
  Nat.testBit_two_pow_mul_add a hb j
theorem join_xor (i a b c d : Nat) (hb : b < 2 ^ i) (hd : d < 2 ^ i) : (2 ^ i * a + b) ^^^ (2 ^ i * c + d) = 2 ^ i * (a ^^^ c) + (b ^^^ d) := by
  apply Nat.eq_of_testBit_eq
  intro j
  rw [Nat.testBit_xor, join_testBit i a b j hb, join_testBit i c d j hd, join_testBit i (a ^^^ c) (b ^^^ d) j (Nat.xor_lt_two_pow hb hd)]
  split <;> rw [Nat.testBit_xor]
theorem xor_top {a m : Nat} (h : a < 2 ^ m) : a ^^^ 2 ^ m = a + 2 ^ m := by
  have := join_xor m 0 a 1 0 h (Nat.two_pow_pos m)
  simp at this
  omega
theorem bo_lt (e : Nat → Bool) (base m : Nat) : bo e base m < 2 ^ m := by
  induction m with
  | zero => simp [bo]
  | succ m ih =>
    have h2 : 2 ^ (m + 1) = 2 * 2 ^ m := by rw [Nat.pow_succ]; omega
    simp only [bo]
    split
    · rw [xor_top ih]; omega
    · rw [Nat.xor_zero]; omega
theorem bo_succ (e : Nat → Bool) (base m : Nat) : bo e base (m + 1) = bo e base m + (if e (base + m) then 2 ^ m else 0) := by
  simp only [bo]
  split
  · exact xor_top (bo_lt e base m)
  · rw [Nat.xor_zero]; rfl
theorem bo_add (e : Nat → Bool) (base m n : Nat) : bo e base (m + n) = 2 ^ m * bo e (base + m) n + bo e base m := by
  induction n with
  | zero => simp [bo]
  | succ n ih =>
    rw [← Nat.add_assoc, bo_succ, bo_succ, ih, Nat.mul_add, Nat.add_assoc base m n]
    split
    · rw [Nat.pow_add]; omega
    · omega
theorem bo_zero_iff (e : Nat → Bool) (base m : Nat) : bo e base m = 0 ↔ ∀ t, t < m → e (base + t) = false := by
  induction m with
  | zero => simp [bo]
  | succ m ih =>
    rw [bo_succ]
    have hp := Nat.two_pow_pos m
    constructor
    · intro h t ht
      have h0 : bo e base m = 0 := by omega
      rcases Nat.lt_or_ge t m with h1 | h1
      · exact ih.1 h0 t h1
      · have : t = m := by omega
        subst this
        cases he : e (base + t) with
        | false => rfl
        | true => rw [he] at h; simp at h
    · intro h
      have h0 := ih.2 fun t ht => h t (by omega)
      rw [h0, h m (by omega)]; rfl
theorem bo_same (e f : Nat → Bool) (base m : Nat) (h : ∀ t, t < m → e (base + t) = f (base + t)) : bo e base m = bo f base m := by
  induction m with
  | zero => rfl
  | succ m ih => simp only [bo]; rw [ih fun t ht => h t (by omega), h m (by omega)]
theorem bo_flip (e f : Nat → Bool) (base m t : Nat) (ht : t < m) (h1 : e (base + t) = false) (h2 : f (base + t) = true) (h3 : ∀ s, s < m → s ≠ t → e (base + s) = f (base + s)) :
    bo f base m = bo e base m ^^^ 2 ^ t := by
  induction m with
  | zero => omega
  | succ m ih =>
    simp only [bo]
    rcases Nat.lt_or_ge t m with h | h
    · rw [ih h fun s hs hne => h3 s (by omega) hne, h3 m (by omega) (by omega), Nat.xor_assoc, Nat.xor_assoc, Nat.xor_comm (2 ^ t)]
    · have : t = m := by omega
      subst this
      rw [bo_same f e base t fun s hs => (h3 s (by omega) (by omega)).symm, h1, h2]
      simp

theorem stp_zero : stp 0 = 0 := rfl
theorem stps_zero (n : Nat) : stps n 0 = 0 := by
  induction n with
  | zero => rfl
  | succ n ih => exact ih
theorem stps_two_pow (m : Nat) : stps m (2 ^ m) = 1 := by
  induction m with
  | zero => rfl
  | succ m ih =>
    show stps m (stp (2 ^ (m + 1))) = 1
    have : stp (2 ^ (m + 1)) = 2 ^ m := by
      unfold stp
      rw [Nat.pow_succ, if_neg (by omega)]
      omega
    rw [this, ih]
theorem rb_eq (x : Nat) (e : Nat → Bool) (base m : Nat) : rb x e base m = stps m (x ^^^ bo e base m) := by
  induction m with
  | zero => simp [rb, bo, stps]
  | succ m ih =>
    have hb : (if e (base + m) then 1 else 0) = stps m (if e (base + m) then 2 ^ m else 0) := by
      split
      · exact (stps_two_pow m).symm
      · exact (stps_zero m).symm
    simp only [rb, bo]
    rw [ih, hb, ← stps_xor, ← stps_succ, Nat.xor_assoc]
theorem rb_add (x : Nat) (e : Nat → Bool) (base m n : Nat) : rb x e base (m + n) = rb (rb x e base m) e (base + m) n := by
  induction n with
  | zero => rfl
  | succ n ih => rw [← Nat.add_assoc]; simp only [rb]; rw [ih, Nat.add_assoc]
theorem stp_eq_zero {y : Nat} (h : y < 4294967296) (hz : stp y = 0) : y = 0 := by
  unfold stp at hz
  split at hz
  · exfalso
    have h1 : y / 2 = 2197175160 := by
      have := congrArg (· ^^^ 2197175160) hz
      simpa [Nat.xor_assoc] using this
    omega
  · omega
theorem stps_eq_zero (n : Nat) : ∀ {y : Nat}, y < 4294967296 → stps n y = 0 → y = 0 := by
  induction n with
  | zero => intro y _ h; exact h
  | succ n ih => intro y hy h; exact stp_eq_zero hy (ih (stp_lt hy) h)

/-- The bits of a word, laid from place k on. -/
def laid (k word i : Nat) (p : Nat) : Bool := decide (k ≤ p) && decide (p < k + i) && word.testBit (p - k)
/-- The bytes of a row of bits. -/
def rowOf (e : Nat → Bool) (n : Nat) : List Nat := (List.range n).map fun j => bo e (8 * j) 8
theorem fedAll_row (x : Nat) (e : Nat → Bool) (n : Nat) : fedAll x (rowOf e n) = rb x e 0 (8 * n) := by
  induction n with
  | zero => rfl
  | succ n ih =>
    unfold rowOf at ih ⊢
    rw [List.range_succ, List.map_append, List.map_cons, List.map_nil, fedAll_snoc, ih, Nat.mul_succ, rb_add, Nat.zero_add]
    show stps 8 _ = _
    rw [rb_eq (rb x e 0 (8 * n))]
theorem rb_laid (k word m : Nat) (hk : k ≤ m) : rb 0 (laid k word 32) 0 m = 0 ↔ ∀ t, t < 32 → k + t < m → word.testBit t = false := by
  have hz : rb 0 (laid k word 32) 0 k = 0 := by
    rw [rb_eq, (bo_zero_iff _ _ _).2, Nat.xor_zero, stps_zero]
    intro t ht
    simp [laid]; omega
  have e : m = k + (m - k) := by omega
  rw [e, rb_add, hz, Nat.zero_add]
  rcases Nat.lt_or_ge (m - k) 33 with h | h
  · rw [rb_eq, Nat.zero_xor]
    have hlt : bo (laid k word 32) k (m - k) < 4294967296 :=
      Nat.lt_of_lt_of_le (bo_lt _ _ _) (Nat.pow_le_pow_right (by omega) (by omega : m - k ≤ 32))
    constructor
    · intro h0 t ht hm
      have := (bo_zero_iff _ _ _).1 (stps_eq_zero _ hlt h0) t (by omega)
      simpa [laid, ht] using this
    · intro h0
      rw [(bo_zero_iff _ _ _).2, stps_zero]
      intro t ht
      simp [laid, h0 t (by omega) (by omega)]
  · have e2 : m - k = 32 + (m - k - 32) := by omega
    rw [e2, rb_add, rb_eq 0, Nat.zero_xor, rb_eq]
    have hzz : bo (laid k word 32) (k + 32) (m - k - 32) = 0 := (bo_zero_iff _ _ _).2 fun t ht => by simp [laid]; omega
    rw [hzz, Nat.xor_zero, ← stps_add]
    have hlt : bo (laid k word 32) k 32 < 4294967296 := bo_lt _ _ _
    constructor
    · intro h0 t ht hm
      have := (bo_zero_iff _ _ _).1 (stps_eq_zero _ hlt h0) t (by omega)
      simpa [laid, ht] using this
    · intro h0
      rw [(bo_zero_iff _ _ _).2, stps_zero]
      intro t ht
      simp [laid, h0 t (by omega) (by omega)]
end Go.Proofs.Ytpamiglinmfgkaa
