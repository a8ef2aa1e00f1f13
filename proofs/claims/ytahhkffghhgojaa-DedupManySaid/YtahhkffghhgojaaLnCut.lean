/- Pieces of slices of lines; where a name stands; stores into a line. They speak of no program but in run_*. -/
import Derived.Test.YtahhkffghhgojaaLn
import Derived.Test.YtahhkffghhgojaaKl
namespace Go.Proofs.Ytahhkffghhgojaa
open Go.RowKit
set_option maxRecDepth 100000

/-- The address of what is left of a slice of elements of five cells each. -/
def cut5 (a : Option Addr) (cap lo : Nat) : Option Addr := if cap = lo then a else a.map (·.add (lo * 5))
theorem LnL.drop {w : World} {F : List Nat} {a : Option Addr} {X : List Ln} {cap : Nat} (h : LnL w F a X) (hc : X.length ≤ cap) (lo : Nat) : LnL w F (cut5 a cap lo) (X.drop lo) := by
  unfold cut5
  by_cases hlo : cap = lo
  · rw [if_pos hlo, List.drop_eq_nil_of_le (by omega)]; exact LnL.nil _ _ _
  · rw [if_neg hlo]
    refine ⟨?_, fun x hx => h.fits x (List.mem_of_mem_drop hx), fun hne q hq hm => ?_⟩
    · rw [lnc_drop]
      rcases h.vals with h' | ⟨b, off, rfl, hcc⟩
      · exact .inl (by rw [h']; simp)
      · refine .inr ⟨b, off + lo * 5, by simp [addr_add], fun i u hu => ?_⟩
        rw [List.getElem?_drop] at hu
        rw [Nat.add_assoc]
        exact hcc _ _ hu
    · cases a with
      | none => cases hq
      | some y =>
        simp at hq
        subst hq
        exact h.away (by rintro rfl; simp at hne) y rfl (by unfold Addr.add at hm; split at hm <;> exact hm)

section
variable {P : Program} {t e : TypeId}
/-- 'x[lo:]' of elements of five cells. -/
theorem run_cut5 (ht : P.underlying t = some (.slice e)) (hz : ∀ w, (Go.sizeOf e).run P w = .ok 5 w) (w : World) (a : Option Addr) (n cap lo : Nat) (l : Int) (hl : l = (lo : Nat)) (h1 : lo ≤ n) :
    (Instr.slice t (.slice a n cap) (some (.int .i64 l)) none none).run P w = .ok (.slice (cut5 a cap lo) (n - lo) (cap - lo)) w := by
  subst hl
  have ht' : P.underlying t = some (.slice (P.elem t)) := by simp [Program.elem, ht]
  have he : P.elem t = e := by simp [Program.elem, ht]
  rw [run_slice_l w t _ _ _ ht' .i64 _ (by omega) (by omega), he, hz]
  simp [Result.andThen, sliced, cut5]
theorem run_head5 (ht : P.underlying t = some (.slice e)) (hz : ∀ w, (Go.sizeOf e).run P w = .ok 5 w) (w : World) (a : Option Addr) (n cap hi : Nat) (h2 : hi ≤ cap) :
    (Instr.slice t (.slice a n cap) none (some (.int .i64 (hi : Nat))) none).run P w = .ok (.slice a hi cap) w := by
  have ht' : P.underlying t = some (.slice (P.elem t)) := by simp [Program.elem, ht]
  have he : P.elem t = e := by simp [Program.elem, ht]
  rw [run_slice_h w t _ _ _ ht' .i64 _ (by omega) (by omega), he, hz]
  have := head_map a
  simp [Result.andThen, sliced, this]
theorem run_head5m (ht : P.underlying t = some (.slice e)) (hz : ∀ w, (Go.sizeOf e).run P w = .ok 5 w) (w : World) (a : Option Addr) (n cap hi mx : Nat) (h2 : hi ≤ mx) (h3 : mx ≤ cap) :
    (Instr.slice t (.slice a n cap) none (some (.int .i64 (hi : Nat))) (some (.int .i64 (mx : Nat)))).run P w = .ok (.slice a hi mx) w := by
  have ht' : P.underlying t = some (.slice (P.elem t)) := by simp [Program.elem, ht]
  have he : P.elem t = e := by simp [Program.elem, ht]
  rw [run_slice_hm w t _ _ _ ht' .i64 .i64 _ _ (by omega) (by omega) (by omega), he, hz]
  have := head_map a
  simp [Result.andThen, sliced, this]
end

/-- A name's line; how many lines there are, if it has none. -/
def atL (X : List Ln) (s : ByteArray) : Nat := X.findIdx (fun x => decide (x.nm = s))
theorem atL_le (X : List Ln) (s : ByteArray) : atL X s ≤ X.length := List.findIdx_le_length
theorem ln_get {X : List Ln} {i : Nat} (h : i < X.length) : X.getD i default = X[i] := by simp [h]
theorem atL_key {X : List Ln} {s : ByteArray} (h : atL X s < X.length) : (X.getD (atL X s) default).nm = s := by
  have h1 := List.findIdx_getElem (p := fun x : Ln => decide (x.nm = s)) (w := h)
  rw [ln_get h]
  exact of_decide_eq_true h1
theorem atL_before {X : List Ln} {s : ByteArray} {j : Nat} (h : j < atL X s) : (X.getD j default).nm ≠ s := by
  have hj : j < X.length := Nat.lt_of_lt_of_le h (atL_le X s)
  have := List.not_of_lt_findIdx h
  rw [ln_get hj]
  simpa using this
def atLI (X : List Ln) (s : ByteArray) : Int := if atL X s < X.length then ((atL X s : Nat) : Int) else -1
theorem lnc_set (X : List Ln) (y : Ln) : ∀ q, q < X.length → y.nm = (X.getD q default).nm →
    lnc (X.set q y) = ((((lnc X).set (q * 5 + 1) (.int .u64 (y.top : Nat))).set (q * 5 + 2) (.int .u64 (y.done : Nat))).set (q * 5 + 3) (.int .u64 (y.l : Nat))).set (q * 5 + 4) (.int .u64 (y.e : Nat)) := by
  induction X with
  | nil => intro q h; simp at h
  | cons x X ih =>
    intro q hq hk
    have e : lnc (x :: X) = .string x.nm :: .int .u64 (x.top : Nat) :: .int .u64 (x.done : Nat) :: .int .u64 (x.l : Nat) :: .int .u64 (x.e : Nat) :: lnc X := rfl
    rcases q with _ | q
    · simp only [List.getD_cons_zero] at hk
      rw [e]
      simp [lnc, Ln.cells, hk]
    · have h := ih q (by simpa using hq) (by simpa using hk)
      rw [List.set_cons_succ, lnc_cons, h, e, show (q + 1) * 5 + 1 = q * 5 + 1 + 1 + 1 + 1 + 1 + 1 by omega, show (q + 1) * 5 + 2 = q * 5 + 2 + 1 + 1 + 1 + 1 + 1 by omega, show (q + 1) * 5 + 3 = q * 5 + 3 + 1 + 1 + 1 + 1 + 1 by omega, show (q + 1) * 5 + 4 = q * 5 + 4 + 1 + 1 + 1 + 1 + 1 by omega]
      rfl
theorem lnset_same {l : List Value} {i : Nat} {v : Value} (h : l[i]? = some v) : l.set i v = l := by
  apply List.ext_getElem?
  intro j
  by_cases e : i = j
  · subst e
    rw [List.getElem?_set_self (by
      rcases Nat.lt_or_ge i l.length with h1 | h1
      · exact h1
      · rw [List.getElem?_eq_none h1] at h; cases h), h]
  · rw [List.getElem?_set_ne e]
/-- A line with another Top; with another Done, At. -/
def Ln.wtop (x : Ln) (v : Nat) : Ln := ⟨x.nm, v, x.done, x.l, x.e⟩
def Ln.wdone (x : Ln) (d l e : Nat) : Ln := ⟨x.nm, x.top, d, l, e⟩
theorem lnc_set1 (X : List Ln) (q v : Nat) (h : q < X.length) : lnc (X.set q ((X.getD q default).wtop v)) = (lnc X).set (q * 5 + 1) (.int .u64 (v : Nat)) := by
  rw [lnc_set X ((X.getD q default).wtop v) q h rfl]
  obtain ⟨_, _, h2, h3, h4⟩ := lnc_at X q h
  simp only [Ln.wtop]
  rw [lnset_same (i := q * 5 + 2) (by rw [List.getElem?_set_ne (by omega)]; exact h2), lnset_same (i := q * 5 + 3) (by rw [List.getElem?_set_ne (by omega)]; exact h3), lnset_same (i := q * 5 + 4) (by rw [List.getElem?_set_ne (by omega)]; exact h4)]
theorem lnc_set2 (X : List Ln) (q d l e : Nat) (h : q < X.length) : lnc (X.set q ((X.getD q default).wdone d l e)) = (((lnc X).set (q * 5 + 2) (.int .u64 (d : Nat))).set (q * 5 + 3) (.int .u64 (l : Nat))).set (q * 5 + 4) (.int .u64 (e : Nat)) := by
  rw [lnc_set X ((X.getD q default).wdone d l e) q h rfl]
  obtain ⟨_, h1, _⟩ := lnc_at X q h
  simp only [Ln.wdone]
  rw [lnset_same h1]
end Go.Proofs.Ytahhkffghhgojaa
