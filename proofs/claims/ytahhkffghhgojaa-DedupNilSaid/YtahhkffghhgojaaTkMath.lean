/- What taking a table of bytes answers, as functions of the bytes (V: which bytes are texts). They speak of no program. -/
import Derived.Test.YtahhkffghhgojaaTbMath
import Derived.Test.YtahhkffghhgojaaStr
import Derived.Test.YtahhkffghhgojaaPkMath
namespace Go.Proofs.Ytahhkffghhgojaa
open Go.RowKit
set_option maxRecDepth 100000

/-- A number of k bytes; a text: what it is and what is left, or the fault. -/
def pN (k : Nat) (l : List Nat) : (Nat × List Nat) ⊕ Nat := if l.length < k then .inr 4 else .inl (val (l.take k), l.drop k)
def pT (V : List Nat → Bool) (l : List Nat) : (ByteArray × List Nat) ⊕ Nat :=
  if l.length < 4 ∨ l.length - 4 < val (l.take 4) then .inr 4 else
  if V ((l.drop 4).take (val (l.take 4))) = true then .inl (strOf ((l.drop 4).take (val (l.take 4))), l.drop (4 + val (l.take 4))) else .inr 6
def thn {α β : Type} (x : (α × List Nat) ⊕ Nat) (f : α → List Nat → (β × List Nat) ⊕ Nat) : (β × List Nat) ⊕ Nat :=
  match x with
  | .inr c => .inr c
  | .inl (a, l) => f a l
/-- A line. -/
def pLn (V : List Nat → Bool) (l : List Nat) : (Ln × List Nat) ⊕ Nat :=
  thn (pT V l) fun s l1 => thn (pN 8 l1) fun d l2 => thn (pN 8 l2) fun a l3 => thn (pN 8 l3) fun e l4 => .inl (⟨s, d, d, a, e⟩, l4)
/-- Is a line that was taken whole not to stand behind these? -/
def badL (out : List Ln) (x : Ln) : Bool :=
  decide (x.nm.size = 0) || decide (64 < x.nm.size) || decide (x.done = 0) || decide (out.length = 16) || (decide (0 < out.length) && !kl (out.getD (out.length - 1) default).nm x.nm)
def pLns (V : List Nat → Bool) : Nat → List Ln → List Nat → (List Ln × List Nat) ⊕ Nat
  | 0, out, l => .inl (out, l)
  | n + 1, out, l => thn (pLn V l) fun x l1 => if badL out x = true then .inr 23 else pLns V n (out ++ [x]) l1
def pTb (V : List Nat → Bool) (l : List Nat) : (List Ln × List Nat) ⊕ Nat := thn (pN 1 l) fun n l1 => pLns V n [] l1
/-- Bytes that are a table and nothing more. -/
def endTb (V : List Nat → Bool) (l : List Nat) : List Ln ⊕ Nat :=
  match pTb V l with
  | .inr c => .inr c
  | .inl (out, l1) => if l1 = [] then .inl out else .inr 5
theorem pN_ne {k : Nat} {l : List Nat} {c : Nat} (h : pN k l = .inr c) : c = 4 := by
  unfold pN at h
  split at h
  · simpa using h.symm
  · cases h
theorem pT_ne {V : List Nat → Bool} {l : List Nat} {c : Nat} (h : pT V l = .inr c) : c = 4 ∨ c = 6 := by
  unfold pT at h
  split at h
  · left; simpa using h.symm
  · split at h
    · cases h
    · right; simpa using h.symm
theorem thn_ne {α β : Type} {x : (α × List Nat) ⊕ Nat} {f : α → List Nat → (β × List Nat) ⊕ Nat} {c : Nat} {P : Nat → Prop} (h : thn x f = .inr c) (h1 : ∀ d, x = .inr d → P d) (h2 : ∀ a l, x = .inl (a, l) → ∀ d, f a l = .inr d → P d) : P c := by
  unfold thn at h
  rcases x with ⟨a, l⟩ | d
  · exact h2 a l rfl c h
  · simp at h; subst h; exact h1 d rfl
theorem pLn_ne {V : List Nat → Bool} {l : List Nat} {c : Nat} (h : pLn V l = .inr c) : c = 4 ∨ c = 6 := by
  unfold pLn at h
  refine thn_ne (P := fun c => c = 4 ∨ c = 6) h (fun d hd => pT_ne hd) (fun s l1 _ d hd => ?_)
  refine thn_ne (P := fun c => c = 4 ∨ c = 6) hd (fun d hd => .inl (pN_ne hd)) (fun s l1 _ d hd => ?_)
  refine thn_ne (P := fun c => c = 4 ∨ c = 6) hd (fun d hd => .inl (pN_ne hd)) (fun s l1 _ d hd => ?_)
  refine thn_ne (P := fun c => c = 4 ∨ c = 6) hd (fun d hd => .inl (pN_ne hd)) (fun s l1 _ d hd => ?_)
  cases hd
theorem pLns_ne {V : List Nat → Bool} : ∀ {n : Nat} {out : List Ln} {l : List Nat} {c : Nat}, pLns V n out l = .inr c → c = 4 ∨ c = 6 ∨ c = 23 := by
  intro n
  induction n with
  | zero => intro out l c h; cases h
  | succ n ih =>
    intro out l c h
    refine thn_ne (P := fun c => c = 4 ∨ c = 6 ∨ c = 23) h (fun d hd => (pLn_ne hd).elim .inl (fun h => .inr (.inl h))) (fun x l1 _ d hd => ?_)
    split at hd
    · simp at hd; exact .inr (.inr hd.symm)
    · exact ih hd
theorem pTb_ne {V : List Nat → Bool} {l : List Nat} {c : Nat} (h : pTb V l = .inr c) : c ≠ 0 := by
  refine thn_ne (P := fun c => c ≠ 0) h (fun d hd => by rw [pN_ne hd]; decide) (fun n l1 _ d hd => ?_)
  rcases pLns_ne hd with rfl | rfl | rfl <;> decide
theorem pN_left {k : Nat} {l l' : List Nat} {n : Nat} (h : pN k l = .inl (n, l')) : l'.length + k = l.length ∧ n = val (l.take k) := by
  unfold pN at h
  split at h
  · cases h
  · simp only [Sum.inl.injEq, Prod.mk.injEq] at h
    obtain ⟨rfl, rfl⟩ := h
    simp; omega
theorem pT_len {V : List Nat → Bool} {l l' : List Nat} {s : ByteArray} (h : pT V l = .inl (s, l')) : l'.length ≤ l.length := by
  unfold pT at h
  split at h
  · cases h
  · split at h
    · simp only [Sum.inl.injEq, Prod.mk.injEq] at h
      rw [← h.2]; simp
    · cases h
theorem pN_len {k : Nat} {l l' : List Nat} {n : Nat} (h : pN k l = .inl (n, l')) : l'.length ≤ l.length := by have := (pN_left h).1; omega
/-- A number that is taken behind whatever: what it is, and what is left or the fault. -/
def nxN (k : Nat) (x : List Nat ⊕ Nat) : Nat × (List Nat ⊕ Nat) :=
  match x with
  | .inr c => (0, .inr c)
  | .inl l => match pN k l with
    | .inr c => (0, .inr c)
    | .inl (n, l') => (n, .inl l')
def NxT (V : List Nat → Bool) (x : List Nat ⊕ Nat) (s : ByteArray) (x' : List Nat ⊕ Nat) : Prop :=
  (∃ l l', x = .inl l ∧ pT V l = .inl (s, l') ∧ x' = .inl l') ∨ (∃ l c, x = .inl l ∧ pT V l = .inr c ∧ x' = .inr c)
/-- A line that is taken, piece by piece. -/
def LnR (V : List Nat → Bool) (l : List Nat) (X : Ln) (x' : List Nat ⊕ Nat) : Prop :=
  (∃ l', x' = .inl l' ∧ pLn V l = .inl (X, l') ∧ l'.length ≤ l.length) ∨ (∃ c, x' = .inr c ∧ pLn V l = .inr c)
theorem nxN_inr (k c : Nat) : nxN k (.inr c) = (0, .inr c) := rfl
theorem lnR_of {V : List Nat → Bool} {l : List Nat} {s : ByteArray} {x1 : List Nat ⊕ Nat} (h : NxT V (.inl l) s x1) :
    LnR V l ⟨s, (nxN 8 x1).1, (nxN 8 x1).1, (nxN 8 (nxN 8 x1).2).1, (nxN 8 (nxN 8 (nxN 8 x1).2).2).1⟩ (nxN 8 (nxN 8 (nxN 8 x1).2).2).2 := by
  rcases h with ⟨l0, l1, e, h, rfl⟩ | ⟨l0, c, e, h, rfl⟩
  · cases e
    have e0 := pT_len h
    rcases h1 : pN 8 l1 with ⟨d, l2⟩ | c
    · have e1 := pN_len h1
      have n1 : nxN 8 (.inl l1) = (d, .inl l2) := by unfold nxN; simp only [h1]
      rw [n1]
      rcases h2 : pN 8 l2 with ⟨a, l3⟩ | c
      · have e2 := pN_len h2
        have n2 : nxN 8 (.inl l2) = (a, .inl l3) := by unfold nxN; simp only [h2]
        simp only [n2]
        rcases h3 : pN 8 l3 with ⟨f, l4⟩ | c
        · have e3 := pN_len h3
          have n3 : nxN 8 (.inl l3) = (f, .inl l4) := by unfold nxN; simp only [h3]
          simp only [n3]
          refine .inl ⟨l4, rfl, ?_, by omega⟩
          unfold pLn thn
          simp only [h, h1, h2, h3]
        · have n3 : nxN 8 (.inl l3) = (0, .inr c) := by unfold nxN; simp only [h3]
          simp only [n3]
          refine .inr ⟨c, rfl, ?_⟩
          unfold pLn thn
          simp only [h, h1, h2, h3]
      · have n2 : nxN 8 (.inl l2) = (0, .inr c) := by unfold nxN; simp only [h2]
        simp only [n2, nxN_inr]
        refine .inr ⟨c, rfl, ?_⟩
        unfold pLn thn
        simp only [h, h1, h2]
    · have n1 : nxN 8 (.inl l1) = (0, .inr c) := by unfold nxN; simp only [h1]
      simp only [n1, nxN_inr]
      refine .inr ⟨c, rfl, ?_⟩
      unfold pLn thn
      simp only [h, h1]
  · cases e
    simp only [nxN_inr]
    refine .inr ⟨c, rfl, ?_⟩
    unfold pLn thn
    simp only [h]
/-- Fail: a fault, if there was none. -/
def nxF (k : Nat) (x : List Nat ⊕ Nat) : List Nat ⊕ Nat := match x with
  | .inr c => .inr c
  | .inl _ => .inr k
/-- End: the fault, or that something is left. -/
def endN (x : List Nat ⊕ Nat) : Nat := match x with
  | .inr c => c
  | .inl l => if l = [] then 0 else 5
/-- In the midst of taking lines: what all comes to is R. -/
def LnsAt (V : List Nat → Bool) (m : Nat) (out : List Ln) (x : List Nat ⊕ Nat) (R : (List Ln × List Nat) ⊕ Nat) : Prop :=
  (∃ l, x = .inl l ∧ R = pLns V m out l ∧ l.length ≤ 100000) ∨ (∃ c, x = .inr c ∧ R = .inr c)
theorem pLns_succ (V : List Nat → Bool) (n : Nat) (out : List Ln) (l : List Nat) : pLns V (n + 1) out l = thn (pLn V l) fun x l1 => if badL out x = true then .inr 23 else pLns V n (out ++ [x]) l1 := rfl
theorem LnsAt.good {V : List Nat → Bool} {m : Nat} {out : List Ln} {l : List Nat} {X : Ln} {x' : List Nat ⊕ Nat} {R : (List Ln × List Nat) ⊕ Nat} (h : R = pLns V (m + 1) out l) (hl : l.length ≤ 100000) (r : LnR V l X x') (hb : badL out X = false) : LnsAt V m (out ++ [X]) x' R := by
  rcases r with ⟨l', rfl, h1, h2⟩ | ⟨c, rfl, h1⟩
  · refine .inl ⟨l', rfl, ?_, by omega⟩
    rw [h, pLns_succ]
    unfold thn
    simp [h1, hb]
  · refine .inr ⟨c, rfl, ?_⟩
    rw [h, pLns_succ]
    unfold thn
    simp [h1]
theorem LnsAt.bad {V : List Nat → Bool} {m : Nat} {out out' : List Ln} {l : List Nat} {X : Ln} {x' : List Nat ⊕ Nat} {R : (List Ln × List Nat) ⊕ Nat} (h : R = pLns V (m + 1) out l) (r : LnR V l X x') (hb : badL out X = true) : LnsAt V m out' (nxF 23 x') R := by
  rcases r with ⟨l', rfl, h1, h2⟩ | ⟨c, rfl, h1⟩
  · refine .inr ⟨23, rfl, ?_⟩
    rw [h, pLns_succ]
    unfold thn
    simp [h1, hb]
  · refine .inr ⟨c, rfl, ?_⟩
    rw [h, pLns_succ]
    unfold thn
    simp [h1]
end Go.Proofs.Ytahhkffghhgojaa
