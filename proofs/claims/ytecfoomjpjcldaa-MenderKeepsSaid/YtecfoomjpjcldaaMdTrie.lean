/- The mender's entries: a tree that parts by the bits of a number, the lowest first; as plain data, and as it lies in memory. -/
import Derived.Test.YtecfoomjpjcldaaIt
import Derived.Test.YtecfoomjpjcldaaPkClone
import Derived.Deep.LoopGhost
namespace Go.Proofs.Ytecfoomjpjcldaa
open Go.RowKit
set_option maxRecDepth 100000

inductive Tn where
  | nil : Tn
  | nd (e : Nat) (d : List Nat) (l r : Tn) : Tn
/-- The bytes of the entry k, if it is there; b are the bits left. -/
def findT : Tn → Nat → Nat → Option (List Nat)
  | .nil, _, _ => none
  | .nd e d l r, b, k => if e = k then some d else if b % 2 = 0 then findT l (b / 2) k else findT r (b / 2) k
def withT : Tn → Nat → List Nat → Nat → Tn
  | .nil, k, d, _ => .nd k d .nil .nil
  | .nd e x l r, k, d, b => if b % 2 = 0 then .nd e x (withT l k d (b / 2)) r else .nd e x l (withT r k d (b / 2))
def keysT : Tn → List Nat
  | .nil => []
  | .nd e _ l r => e :: (keysT l ++ keysT r)
/-- What it has. -/
def atT (t : Tn) (k : Nat) : Option (List Nat) := findT t k k
def depT : Tn → Nat
  | .nil => 0
  | .nd _ _ l r => depT l + depT r + 1

theorem find_other {t : Tn} {k e : Nat} {d : List Nat} (h : k ≠ e) : ∀ {b c : Nat}, findT (withT t e d b) c k = findT t c k := by
  induction t with
  | nil => intro b c; simp only [withT, findT]; rw [if_neg (by omega)]; split <;> rfl
  | nd x y l r ihl ihr =>
    intro b c
    unfold withT
    by_cases hb : b % 2 = 0
    · rw [if_pos hb]; simp only [findT]; rw [ihl]
    · rw [if_neg hb]; simp only [findT]; rw [ihr]
theorem find_new {t : Tn} {e : Nat} {d : List Nat} : ∀ {b : Nat}, findT t b e = none → findT (withT t e d b) b e = some d := by
  induction t with
  | nil => intro b _; simp [withT, findT]
  | nd x y l r ihl ihr =>
    intro b h
    simp only [findT] at h
    by_cases hx : x = e
    · rw [if_pos hx] at h; cases h
    · rw [if_neg hx] at h
      unfold withT
      by_cases hb : b % 2 = 0
      · rw [if_pos hb] at h ⊢
        simp only [findT]
        rw [if_neg hx, if_pos hb]
        exact ihl h
      · rw [if_neg hb] at h ⊢
        simp only [findT]
        rw [if_neg hx, if_neg hb]
        exact ihr h
theorem at_with {t : Tn} {e k : Nat} {d : List Nat} (h : atT t e = none) : atT (withT t e d e) k = if k = e then some d else atT t k := by
  unfold atT at *
  by_cases hk : k = e
  · subst hk; rw [if_pos rfl]; exact find_new h
  · rw [if_neg hk]; exact find_other hk
theorem keys_with (t : Tn) (e : Nat) (d : List Nat) (b : Nat) : (keysT (withT t e d b)).length = (keysT t).length + 1 := by
  induction t generalizing b with
  | nil => rfl
  | nd x y l r ihl ihr =>
    unfold withT
    split
    · simp only [keysT, List.length_cons, List.length_append, ihl]; omega
    · simp only [keysT, List.length_cons, List.length_append, ihr]; omega
theorem find_key {t : Tn} {k : Nat} {d : List Nat} : ∀ {b : Nat}, findT t b k = some d → k ∈ keysT t := by
  induction t with
  | nil => intro b h; cases h
  | nd x y l r ihl ihr =>
    intro b h
    simp only [findT] at h
    simp only [keysT, List.mem_cons, List.mem_append]
    by_cases hx : x = k
    · exact .inl hx.symm
    · rw [if_neg hx] at h
      split at h
      · exact .inr (.inl (ihl h))
      · exact .inr (.inr (ihr h))
theorem pigeon : ∀ {n : Nat} {l : List Nat}, (∀ i, i < n → i ∈ l) → n ≤ l.length := by
  intro n
  induction n with
  | zero => intro l _; exact Nat.zero_le _
  | succ n ih =>
    intro l h
    have h1 := h n (Nat.lt_succ_self n)
    have h2 : n ≤ (l.erase n).length := ih (fun i hi => (List.mem_erase_of_ne (by omega)).2 (h i (by omega)))
    rw [List.length_erase_of_mem h1] at h2
    have := List.length_pos_of_mem h1
    omega
theorem at_few {t : Tn} {n : Nat} (h : ∀ i, i < n → atT t i ≠ none) : n ≤ (keysT t).length := by
  refine pigeon fun i hi => ?_
  cases hd : atT t i with
  | none => exact absurd hd (h i hi)
  | some d => exact find_key hd

/-- The tree at a pointer; nothing of it lies in the blocks F. -/
def TnAt (w : World) (F : List Nat) : Value → Tn → Prop
  | v, .nil => v = .pointer none
  | v, .nd e d l r => ∃ g a c x y, v = .pointer (some ⟨g, 0, none⟩) ∧ Whole w g 133 #[.int .u64 (e : Nat), .slice a d.length c, x, y] ∧ g ∉ F ∧ IxOk w F ⟨(e, d), a, c⟩ ∧ TnAt w F x l ∧ TnAt w F y r
theorem TnAt.keep {w w' : World} {F F' S : List Nat} {t : Tn} {v : Value} (h : TnAt w F v t) (hf : Frm S w w') (hS : ∀ x ∈ S, x ∈ F ∨ w.heap.size ≤ x) (hF : ∀ x ∈ F', x ∈ F ∨ w.heap.size ≤ x) : TnAt w' F' v t := by
  induction t generalizing v with
  | nil => exact h
  | nd e d l r ihl ihr =>
    obtain ⟨g, a, c, x, y, rfl, hw, hg, hi, hl, hr⟩ := h
    have := hw.lt
    refine ⟨g, a, c, x, y, rfl, hf.whole hw (fun hm => ?_), fun hm => ?_, hi.keep hf hS hF, ihl hl, ihr hr⟩
    · rcases hS g hm with h | h
      · exact hg h
      · omega
    · rcases hF g hm with h | h
      · exact hg h
      · omega
theorem TnAt.ptr {w : World} {F : List Nat} {v : Value} {t : Tn} (h : TnAt w F v t) : ∃ p, v = .pointer p := by
  cases t with
  | nil => exact ⟨_, h⟩
  | nd e d l r => obtain ⟨g, a, c, x, y, rfl, _⟩ := h; exact ⟨_, rfl⟩

/-- What find answers. -/
def FindEnd (w : World) (F : List Nat) (o : Option (List Nat)) (k : Nat) (e : Ending) (w' : World) : Prop :=
  w' = w ∧ ((o = none ∧ e = .returned (.tuple #[.slice none 0 0, .bool false])) ∨ ∃ d a c, o = some d ∧ e = .returned (.tuple #[.slice a d.length c, .bool true]) ∧ IxOk w F ⟨(k, d), a, c⟩)
def FiRel (w : World) (F : List Nat) (o : Option (List Nat)) (k : Nat) (gk : Nat) (s0 s6 : Value) (wr : World) : Prop :=
  ∃ (v : Value) (t : Tn) (b : Nat), s0 = v ∧ gk = depT t ∧ s6 = .int .u64 (b : Nat) ∧ b < 18446744073709551616 ∧ findT t b k = o ∧ Hid (TnAt w F v t) ∧ wr = w
set_option maxHeartbeats 4000000 in
theorem mfind_any {w : World} {F : List Nat} {v : Value} {t : Tn} (k : Nat) (h : TnAt w F v t) (hk : k < 18446744073709551616) :
    Calls Try.prog 58 #[v, .int .u64 (k : Nat)] w (FindEnd w F (atT t k) k) := by
  obtain ⟨Q, hQ⟩ : ∃ Q, Q = FindEnd w F (atT t k) k := ⟨_, rfl⟩
  rw [← hQ]
  have HQ := Lib.hid hQ
  have HR0 : Hid (FiRel w F (atT t k) k (depT t) v (.int .u64 (k : Nat)) w) := Lib.hid ⟨v, t, k, rfl, rfl, rfl, hk, rfl, Lib.hid h, rfl⟩
  obtain ⟨o, ho⟩ : ∃ o, o = atT t k := ⟨_, rfl⟩
  rw [← ho] at HR0 HQ
  obtain ⟨n, hn⟩ : ∃ n, n = depT t := ⟨_, rfl⟩
  rw [← hn] at HR0
  clear h hQ ho hn
  go_enter Try.func58, Try.ntmps58
  go_wp2
  go_loopg [0, 6] n (fun gk s0 s6 wr => FiRel w F o k gk s0 s6 wr)
  case atStart => exact HR0.out
  case round =>
    clear HR0
    obtain ⟨v, t, b, rfl, rfl, rfl, hb, ho, HT, rfl⟩ := hrel
    cases t with
    | nil =>
      have hv : u0 = .pointer none := HT.out
      subst hv
      have HO := Lib.hid ho
      clear ho
      go_wp2
      rw [HQ.out]
      exact ⟨rfl, .inl ⟨HO.out.symm, rfl⟩⟩
    | nd e d l r =>
      obtain ⟨g, a, c, x, y, rfl, hw, hg, hi, hl, hr⟩ := HT.out
      have n0 := hw.cell 0
      have n1 := hw.cell 1
      have n2 := hw.cell 2
      have n3 := hw.cell 3
      simp at n0 n1 n2 n3
      have HI := Lib.hid hi
      have HL := Lib.hid hl
      have HRR := Lib.hid hr
      have HO := Lib.hid ho
      clear hw hg hi hl hr HT ho
      by_cases he : e = k
      · subst he
        have d1 : ((e : Int) == (e : Int)) = true := by simp
        go_wp2
        rw [HQ.out]
        refine ⟨rfl, .inr ⟨d, a, c, ?_, rfl, HI.out⟩⟩
        have := HO.out
        simp only [findT] at this
        rw [if_pos trivial] at this
        exact this.symm
      · have d1 : ((e : Int) == (k : Int)) = false := by simp; omega
        have HE := Lib.hid he
        clear he
        rcases Nat.mod_two_eq_zero_or_one b with hb2 | hb2
        · have hbit : bits BinOp.and IntKind.u64 (b : Int) 1 = 0 := by
            rw [show (1 : Int) = ((1 : Nat) : Int) from rfl, u64_and_nat b 1 hb (by decide), nat_mask1, hb2]; rfl
          have HB2 := Lib.hid hb2
          clear hb2
          go_wp2
          go_roundg (depT l)
          case measure => simp only [depT]; omega
          case rel =>
            refine ⟨_, l, b / 2, rfl, rfl, by go_num, by omega, ?_, HL, rfl⟩
            have := HO.out
            simp only [findT] at this
            rw [if_neg HE.out, if_pos HB2.out] at this
            exact this
        · have hbit : bits BinOp.and IntKind.u64 (b : Int) 1 = 1 := by
            rw [show (1 : Int) = ((1 : Nat) : Int) from rfl, u64_and_nat b 1 hb (by decide), nat_mask1, hb2]
          have HB2 := Lib.hid hb2
          clear hb2
          go_wp2
          go_roundg (depT r)
          case measure => simp only [depT]; omega
          case rel =>
            refine ⟨_, r, b / 2, rfl, rfl, by go_num, by omega, ?_, HRR, rfl⟩
            have := HO.out
            simp only [findT] at this
            rw [if_neg HE.out, if_neg (by have := HB2.out; omega)] at this
            exact this
end Go.Proofs.Ytecfoomjpjcldaa
