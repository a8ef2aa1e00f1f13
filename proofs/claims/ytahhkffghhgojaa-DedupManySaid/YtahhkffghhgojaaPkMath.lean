/- Plain arithmetic: a number's bytes, the greatest first (be), and back (val). It speaks of no program. -/
import Derived.Test.YtahhkffghhgojaaRows
namespace Go.Proofs.Ytahhkffghhgojaa

def be : Nat → Nat → List Nat
  | 0, _ => []
  | k + 1, n => be k (n / 256) ++ [n % 256]
def val (l : List Nat) : Nat := l.foldl (fun x c => x * 256 + c) 0

theorem be_length (k n : Nat) : (be k n).length = k := by
  induction k generalizing n with
  | zero => rfl
  | succ k ih => simp [be, ih]
theorem be_lt (k n : Nat) : ∀ c ∈ be k n, c < 256 := by
  induction k generalizing n with
  | zero => simp [be]
  | succ k ih =>
    intro c hc
    rcases List.mem_append.1 hc with h | h
    · exact ih _ c h
    · simp at h; omega
theorem val_snoc (l : List Nat) (c : Nat) : val (l ++ [c]) = val l * 256 + c := by simp [val]
theorem val_nil : val [] = 0 := rfl
theorem val_be (k n : Nat) (h : n < 256 ^ k) : val (be k n) = n := by
  induction k generalizing n with
  | zero => simp at h; subst h; rfl
  | succ k ih =>
    rw [be, val_snoc, ih (n / 256) (by rw [Nat.pow_succ] at h; omega)]; omega
theorem snoc_ind {p : List Nat → Prop} (h0 : p []) (h1 : ∀ l c, p l → p (l ++ [c])) (l : List Nat) : p l := by
  have H : ∀ m : List Nat, p m.reverse := by
    intro m
    induction m with
    | nil => exact h0
    | cons c m ih => rw [List.reverse_cons]; exact h1 _ _ ih
  have := H l.reverse
  rwa [List.reverse_reverse] at this
theorem val_lt (l : List Nat) (h : ∀ c ∈ l, c < 256) : val l < 256 ^ l.length := by
  revert h
  refine snoc_ind (p := fun l => (∀ c ∈ l, c < 256) → val l < 256 ^ l.length) ?_ ?_ l
  · intro _; simp [val]
  · intro l c ih h
    have h1 := ih (fun x hx => h x (by simp [hx]))
    have h2 := h c (by simp)
    rw [val_snoc, List.length_append, List.length_singleton, Nat.pow_succ]; omega
theorem be_val (l : List Nat) (h : ∀ c ∈ l, c < 256) : be l.length (val l) = l := by
  revert h
  refine snoc_ind (p := fun l => (∀ c ∈ l, c < 256) → be l.length (val l) = l) ?_ ?_ l
  · intro _; rfl
  · intro l c ih h
    have h1 := ih (fun x hx => h x (by simp [hx]))
    have h2 := h c (by simp)
    rw [val_snoc, List.length_append, List.length_singleton, be, show (val l * 256 + c) / 256 = val l by omega, show (val l * 256 + c) % 256 = c by omega, h1]
theorem val_zeros (m : Nat) (l : List Nat) : val (List.replicate m 0 ++ l) = val l := by
  induction m with
  | zero => rfl
  | succ m ih =>
    rw [← ih]
    simp [val, List.replicate_succ]
/-- The eight bytes of a number, each by itself. -/
theorem be8 (n : Nat) (h : n < 18446744073709551616) : be 8 n = [n / 72057594037927936, n / 281474976710656 % 256, n / 1099511627776 % 256, n / 4294967296 % 256, n / 16777216 % 256, n / 65536 % 256, n / 256 % 256, n % 256] := by
  simp only [be, List.nil_append, List.cons_append, List.cons.injEq, and_true]
  repeat' apply And.intro
  all_goals omega
theorem be_drop (k n : Nat) (hk : k ≤ 8) : (be 8 n).drop (8 - k) = be k n := by
  have H : ∀ (m k n : Nat), (be (m + k) n).drop m = be k n := by
    intro m k
    induction k with
    | zero => intro n; simp [be, be_length]
    | succ k ih =>
      intro n
      show (be (m + k) (n / 256) ++ [n % 256]).drop m = _
      rw [List.drop_append_of_le_length (by rw [be_length]; omega), ih]; rfl
  have := H (8 - k) k n
  rwa [show 8 - k + k = 8 by omega] at this
theorem be_inj (k a b : Nat) (ha : a < 256 ^ k) (hb : b < 256 ^ k) (h : be k a = be k b) : a = b := by
  rw [← val_be k a ha, h, val_be k b hb]
end Go.Proofs.Ytahhkffghhgojaa
