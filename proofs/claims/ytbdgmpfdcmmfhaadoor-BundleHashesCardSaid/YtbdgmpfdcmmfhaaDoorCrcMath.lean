/- Plain arithmetic of the CRC-32C register over natural numbers: the step, bytes, lists of bytes, and that it is linear over exclusive-or. No condition. -/
import Derived.WalkKit
namespace Go.Proofs.YtbdgmpfdcmmfhaaDoor

/-- One step of the register. -/
def stp (x : Nat) : Nat := if x % 2 = 1 then x / 2 ^^^ 2197175160 else x / 2
/-- So many steps. -/
def stps : Nat → Nat → Nat
  | 0, x => x
  | n + 1, x => stps n (stp x)
/-- A byte more. -/
def fed (x c : Nat) : Nat := stps 8 (x ^^^ c)
/-- A list of bytes more. -/
def fedAll (x : Nat) : List Nat → Nat
  | [] => x
  | c :: r => fedAll (fed x c) r
def inv32 (x : Nat) : Nat := x ^^^ 4294967295
def moreN (s : Nat) (l : List Nat) : Nat := inv32 (fedAll (inv32 s) l)
def sumN (l : List Nat) : Nat := moreN 0 l

theorem xor_lt {a b : Nat} (ha : a < 4294967296) (hb : b < 4294967296) : a ^^^ b < 4294967296 :=
  Nat.xor_lt_two_pow (n := 32) ha hb
theorem stp_lt {x : Nat} (h : x < 4294967296) : stp x < 4294967296 := by
  unfold stp; split
  · exact xor_lt (by omega) (by omega)
  · omega
theorem stps_lt (n : Nat) : ∀ {x : Nat}, x < 4294967296 → stps n x < 4294967296 := by
  induction n with
  | zero => intro x h; exact h
  | succ n ih => intro x h; exact ih (stp_lt h)
theorem fed_lt {x c : Nat} (hx : x < 4294967296) (hc : c < 256) : fed x c < 4294967296 :=
  stps_lt 8 (xor_lt hx (by omega))
theorem fedAll_lt (l : List Nat) : ∀ {x : Nat}, x < 4294967296 → (∀ c ∈ l, c < 256) → fedAll x l < 4294967296 := by
  induction l with
  | nil => intro x h _; exact h
  | cons c r ih => intro x h hc; exact ih (fed_lt h (hc c (by simp))) (fun d hd => hc d (by simp [hd]))
theorem inv32_lt {x : Nat} (h : x < 4294967296) : inv32 x < 4294967296 := xor_lt h (by omega)
theorem inv32_inv (x : Nat) : inv32 (inv32 x) = x := by unfold inv32; rw [Nat.xor_assoc, Nat.xor_self, Nat.xor_zero]
theorem stps_succ (n : Nat) : ∀ x, stps (n + 1) x = stp (stps n x) := by
  induction n with
  | zero => intro x; rfl
  | succ n ih => intro x; show stps (n + 1) (stp x) = _; rw [ih]; rfl
theorem stps_add (m : Nat) : ∀ n x, stps (n + m) x = stps n (stps m x) := by
  induction m with
  | zero => intro n x; rfl
  | succ m ih => intro n x; show stps (n + m) (stp x) = stps n (stps m (stp x)); exact ih n _
theorem fedAll_append (a : List Nat) : ∀ (x : Nat) (b : List Nat), fedAll x (a ++ b) = fedAll (fedAll x a) b := by
  induction a with
  | nil => intro x b; rfl
  | cons c r ih => intro x b; exact ih _ b
theorem fedAll_snoc (x : Nat) (a : List Nat) (c : Nat) : fedAll x (a ++ [c]) = fed (fedAll x a) c := by rw [fedAll_append]; rfl
theorem moreN_append (s : Nat) (a b : List Nat) : moreN s (a ++ b) = moreN (moreN s a) b := by
  unfold moreN; rw [inv32_inv, fedAll_append]
theorem moreN_nil (s : Nat) : moreN s [] = s := inv32_inv s
theorem moreN_lt {s : Nat} {l : List Nat} (hs : s < 4294967296) (hl : ∀ c ∈ l, c < 256) : moreN s l < 4294967296 :=
  inv32_lt (fedAll_lt l (inv32_lt hs) hl)
theorem sumN_lt {l : List Nat} (hl : ∀ c ∈ l, c < 256) : sumN l < 4294967296 := moreN_lt (by omega) hl

/-! ### Linear over exclusive-or -/
theorem xor_div2 (x y : Nat) : (x ^^^ y) / 2 = x / 2 ^^^ y / 2 := by
  have := Nat.shiftRight_xor_distrib (a := x) (b := y) (i := 1)
  simpa [Nat.shiftRight_eq_div_pow] using this
theorem xor_mod2 (x y : Nat) : (x ^^^ y) % 2 = (x + y) % 2 := by
  have h : (x ^^^ y) % 2 = 1 ↔ ¬(x % 2 = 1 ↔ y % 2 = 1) := Nat.xor_mod_two_eq_one
  have hz := Nat.mod_two_eq_zero_or_one (x ^^^ y)
  rcases Nat.mod_two_eq_zero_or_one x with hx | hx <;> rcases Nat.mod_two_eq_zero_or_one y with hy | hy
  · have : ¬ (x ^^^ y) % 2 = 1 := fun k => h.1 k (by simp [hx, hy])
    omega
  · have : (x ^^^ y) % 2 = 1 := h.2 (by simp [hx, hy])
    omega
  · have : (x ^^^ y) % 2 = 1 := h.2 (by simp [hx, hy])
    omega
  · have : ¬ (x ^^^ y) % 2 = 1 := fun k => h.1 k (by simp [hx, hy])
    omega
theorem xor4 (a b c d : Nat) : (a ^^^ b) ^^^ (c ^^^ d) = (a ^^^ c) ^^^ (b ^^^ d) := by
  rw [Nat.xor_assoc, Nat.xor_assoc, ← Nat.xor_assoc b c d, Nat.xor_comm b c, Nat.xor_assoc]
theorem xor_cancel_right (a b p : Nat) : (a ^^^ p) ^^^ (b ^^^ p) = a ^^^ b := by
  rw [xor4, Nat.xor_self, Nat.xor_zero]
theorem stp_xor (x y : Nat) : stp (x ^^^ y) = stp x ^^^ stp y := by
  unfold stp
  rw [xor_mod2, xor_div2]
  rcases Nat.mod_two_eq_zero_or_one x with hx | hx <;> rcases Nat.mod_two_eq_zero_or_one y with hy | hy
  · rw [if_neg (by omega), if_neg (by omega), if_neg (by omega)]
  · rw [if_pos (by omega), if_neg (by omega), if_pos (by omega), Nat.xor_assoc]
  · rw [if_pos (by omega), if_pos (by omega), if_neg (by omega), Nat.xor_assoc, Nat.xor_assoc, Nat.xor_comm 2197175160]
  · rw [if_neg (by omega), if_pos (by omega), if_pos (by omega), xor_cancel_right]
theorem stps_xor (n : Nat) : ∀ x y, stps n (x ^^^ y) = stps n x ^^^ stps n y := by
  induction n with
  | zero => intro x y; rfl
  | succ n ih => intro x y; show stps n (stp (x ^^^ y)) = _; rw [stp_xor, ih]; rfl
theorem fed_xor (x y c d : Nat) : fed (x ^^^ y) (c ^^^ d) = fed x c ^^^ fed y d := by
  unfold fed; rw [xor4, stps_xor]
/-- Two lists of one length, place by place. -/
def xorL : List Nat → List Nat → List Nat
  | a :: r, b :: s => (a ^^^ b) :: xorL r s
  | _, _ => []
theorem fedAll_xor (a : List Nat) : ∀ (b : List Nat) (x y : Nat), a.length = b.length → fedAll (x ^^^ y) (xorL a b) = fedAll x a ^^^ fedAll y b := by
  induction a with
  | nil => intro b x y h; cases b with
    | nil => rfl
    | cons _ _ => simp at h
  | cons c r ih => intro b x y h; cases b with
    | nil => simp at h
    | cons d s =>
      show fedAll (fed (x ^^^ y) (c ^^^ d)) (xorL r s) = fedAll (fed x c) r ^^^ fedAll (fed y d) s
      rw [fed_xor]; exact ih s _ _ (by simpa using h)
theorem xorL_length (a : List Nat) : ∀ b : List Nat, a.length = b.length → (xorL a b).length = a.length := by
  induction a with
  | nil => intro b h; cases b <;> rfl
  | cons c r ih => intro b h; cases b with
    | nil => simp at h
    | cons d s => simp [xorL]; exact ih s (by simpa using h)
theorem xorL_getD (a : List Nat) : ∀ (b : List Nat) (i : Nat), a.length = b.length → (xorL a b).getD i 0 = a.getD i 0 ^^^ b.getD i 0 := by
  induction a with
  | nil => intro b i h; cases b with
    | nil => simp [xorL]
    | cons _ _ => simp at h
  | cons c r ih => intro b i h; cases b with
    | nil => simp at h
    | cons d s => cases i with
      | zero => simp [xorL]
      | succ i => simpa [xorL] using ih s i (by simpa using h)
theorem xorL_lt (a : List Nat) : ∀ b : List Nat, (∀ c ∈ a, c < 256) → (∀ c ∈ b, c < 256) → ∀ c ∈ xorL a b, c < 256 := by
  induction a with
  | nil => intro b _ _ c hc; cases b <;> simp [xorL] at hc
  | cons x r ih => intro b ha hb c hc; cases b with
    | nil => simp [xorL] at hc
    | cons y s =>
      simp only [xorL, List.mem_cons] at hc
      rcases hc with rfl | hc
      · exact Nat.xor_lt_two_pow (n := 8) (ha x (by simp)) (hb y (by simp))
      · exact ih s (fun c h => ha c (by simp [h])) (fun c h => hb c (by simp [h])) c hc
theorem xor3_max (a b c : Nat) : inv32 (a ^^^ b ^^^ c) = inv32 a ^^^ inv32 b ^^^ inv32 c := by
  unfold inv32
  rw [xor_cancel_right, Nat.xor_assoc]
theorem sum_linear (a b c : List Nat) (h : a.length = b.length) (k : b.length = c.length) : sumN (xorL (xorL a b) c) = sumN a ^^^ sumN b ^^^ sumN c := by
  have e : fedAll 4294967295 (xorL (xorL a b) c) = fedAll 4294967295 a ^^^ fedAll 4294967295 b ^^^ fedAll 4294967295 c := by
    have h1 := fedAll_xor a b 4294967295 4294967295 h
    have h2 := fedAll_xor (xorL a b) c (4294967295 ^^^ 4294967295) 4294967295 (by rw [xorL_length a b h, h, k])
    rw [h1] at h2
    have : ((4294967295 ^^^ 4294967295) ^^^ 4294967295 : Nat) = 4294967295 := by decide
    rw [this] at h2
    exact h2
  have z : inv32 0 = 4294967295 := by decide
  unfold sumN moreN
  rw [z, e, xor3_max]
end Go.Proofs.YtbdgmpfdcmmfhaaDoor
