/- The lines of DedupMany: sixteen senders of one letter each. It speaks of no program. -/
import Derived.Test.YtahhkffghhgojaaDdMath
import Derived.Test.YtahhkffghhgojaaStr
namespace Go.Proofs.Ytahhkffghhgojaa
open Go.RowKit
set_option maxRecDepth 100000

def nmI (j : Nat) : ByteArray := strOf [97 + j]
def bitI (d j : Nat) : Nat := d / 2 ^ j % 2
def lnI (d j : Nat) : Ln := ⟨nmI j, 1, bitI d j, 0, 0⟩
def lnsI (d i : Nat) : List Ln := (List.range i).map (lnI d)
theorem lnsI_len (d i : Nat) : (lnsI d i).length = i := by simp [lnsI]
theorem lnsI_succ (d i : Nat) : lnsI d (i + 1) = lnsI d i ++ [lnI d i] := by simp [lnsI, List.range_succ]
theorem nmI_size (j : Nat) : (nmI j).size = 1 := by unfold nmI; rw [strOf_size]; rfl
theorem nmI_inj : ∀ i, i < 16 → ∀ j, j < 16 → nmI i = nmI j → i = j := by decide
theorem mem_lnsI {d i : Nat} {x : Ln} (h : x ∈ lnsI d i) : ∃ j, j < i ∧ x = lnI d j := by
  unfold lnsI at h
  obtain ⟨j, hj, rfl⟩ := List.mem_map.1 h
  exact ⟨j, List.mem_range.1 hj, rfl⟩
theorem lnsI_new {d i : Nat} (h : i < 16) : ∀ x ∈ lnsI d i, x.nm ≠ nmI i := by
  intro x hx e
  obtain ⟨j, hj, rfl⟩ := mem_lnsI hx
  have := nmI_inj j (by omega) i h e
  omega
theorem lnsI_has {d i : Nat} (h : i < 16) : hasL (lnsI d i) (nmI i) = false := by
  unfold hasL
  rw [lookL_none.2 (lnsI_new h)]
  rfl
theorem bitI_lt (d j : Nat) : bitI d j = 0 ∨ bitI d j = 1 := by unfold bitI; omega
/-- Begin there. -/
theorem many_beg {d i : Nat} (h : i < 16) : begC (lnsI d i) (nmI i) 1 = 0 ∧ begX (lnsI d i) (nmI i) 1 = lnsI d i ++ [⟨nmI i, 1, 0, 0, 0⟩] := by
  have hh := lnsI_has (d := d) h
  have h0 : begC (lnsI d i) (nmI i) 1 = 0 := by
    rw [begC_ln, lnOf_not hh, nmI_size, lnsI_len]
    simp
    omega
  refine ⟨h0, ?_⟩
  rw [begX_not h0 hh]
  unfold putL
  rw [show (lookL (lnsI d i) (⟨nmI i, 1, 0, 0, 0⟩ : Ln).nm).isSome = false from hh]
  rfl
theorem many_skip {d i : Nat} (hb : bitI d i = 0) : lnsI d i ++ [⟨nmI i, 1, 0, 0, 0⟩] = lnsI d (i + 1) := by
  rw [lnsI_succ]
  unfold lnI
  rw [hb]
/-- Done there. -/
theorem many_don {d i : Nat} (h : i < 16) (ok : TbOk (lnsI d i ++ [⟨nmI i, 1, 0, 0, 0⟩])) (hb : bitI d i = 1) : donC (lnsI d i ++ [⟨nmI i, 1, 0, 0, 0⟩]) (nmI i) 1 = 0 ∧ donX (lnsI d i ++ [⟨nmI i, 1, 0, 0, 0⟩]) (nmI i) 1 0 0 = lnsI d (i + 1) := by
  have hlk : lookL (lnsI d i ++ [⟨nmI i, 1, 0, 0, 0⟩]) (nmI i) = some ⟨nmI i, 1, 0, 0, 0⟩ := (lookL_some ok.dist).2 ⟨by simp, rfl⟩
  have hln : lnOf (lnsI d i ++ [⟨nmI i, 1, 0, 0, 0⟩]) (nmI i) = ⟨nmI i, 1, 0, 0, 0⟩ := by unfold lnOf; rw [hlk]; rfl
  have hhs : hasL (lnsI d i ++ [⟨nmI i, 1, 0, 0, 0⟩]) (nmI i) = true := by unfold hasL; rw [hlk]; rfl
  have h0 : donC (lnsI d i ++ [⟨nmI i, 1, 0, 0, 0⟩]) (nmI i) 1 = 0 := by
    rw [donC_ln, hln, hhs]
    simp
  refine ⟨h0, ?_⟩
  rw [donX_zero ok.dist h0, hln]
  unfold putL
  rw [if_pos (by show (lookL _ (nmI i)).isSome = true; exact hhs)]
  unfold updL
  rw [List.map_append, lnsI_succ]
  congr 1
  · conv => rhs; rw [← List.map_id (lnsI d i)]
    apply List.map_congr_left
    intro x hx
    exact if_neg (lnsI_new h x hx)
  · unfold lnI
    rw [hb]
    simp [Ln.wdone]
/-- A name of two bytes or more is none of them. -/
theorem many_other {d : Nat} {s : ByteArray} (h : 2 ≤ s.size) : hasL (lnsI d 16) s = false := by
  unfold hasL
  rw [lookL_none.2 (fun x hx e => by
    obtain ⟨j, hj, rfl⟩ := mem_lnsI hx
    have h1 := nmI_size j
    have h2 : (lnI d j).nm = nmI j := rfl
    rw [← h2, e] at h1
    omega)]
  rfl
theorem many_full {d : Nat} {s : ByteArray} (h : 2 ≤ s.size) (h2 : s.size ≤ 64) : begC (lnsI d 16) s 1 = 14 := by
  rw [begC_ln, many_other h, lnOf_not (many_other h), lnsI_len, if_neg (by omega), if_neg (by omega)]
  simp
theorem many_forX (d : Nat) : forX (lnsI d 16) = ((List.range 16).filter fun j => decide (bitI d j = 1)).map (lnI d) := by
  unfold forX lnsI
  rw [List.filter_map, List.map_map]
  have e1 : (fun x : Ln => decide (0 < x.done)) ∘ lnI d = fun j => decide (bitI d j = 1) := by
    funext j
    simp only [Function.comp, lnI]
    rcases bitI_lt d j with h | h <;> simp [h]
  rw [e1]
  apply List.map_congr_left
  intro j hj
  have hj : bitI d j = 1 := by have := (List.mem_filter.1 hj).2; simpa using this
  simp [Function.comp, lnI, Ln.wtop, hj]
theorem many_all {d : Nat} (hd : d < 65536) : (forX (lnsI d 16)).length = 16 ↔ d = 65535 := by
  rw [many_forX, List.length_map]
  constructor
  · intro h
    have h1 : ∀ j ∈ List.range 16, decide (bitI d j = 1) = true := List.length_filter_eq_length_iff.1 (by rw [h]; rfl)
    have h2 : ∀ j, j < 16 → bitI d j = 1 := fun j hj => by simpa using h1 j (List.mem_range.2 hj)
    apply Nat.eq_of_testBit_eq
    intro j
    by_cases hj : j < 16
    · have h3 : ∀ j, j < 16 → Nat.testBit 65535 j = true := by decide
      rw [h3 j hj, Nat.testBit_eq_decide_div_mod_eq]
      exact decide_eq_true (h2 j hj)
    · have h4 : 65536 ≤ 2 ^ j := by
        have := Nat.pow_le_pow_right (n := 2) (by decide) (show 16 ≤ j by omega)
        simpa using this
      rw [Nat.testBit_lt_two_pow (by omega), Nat.testBit_lt_two_pow (by omega)]
  · rintro rfl
    decide
theorem many_after {d : Nat} {s : ByteArray} (hd : d < 65536) (h : 2 ≤ s.size) (h2 : s.size ≤ 64) : begC (forX (lnsI d 16)) s 1 = if d = 65535 then 14 else 0 := by
  have hh : hasL (forX (lnsI d 16)) s = false := by
    unfold hasL
    rw [lookL_none.2 (fun x hx e => by
      rw [many_forX] at hx
      obtain ⟨j, hj, rfl⟩ := List.mem_map.1 hx
      have h1 := nmI_size j
      have h2 : (lnI d j).nm = nmI j := rfl
      rw [← h2, e] at h1
      omega)]
    rfl
  rw [begC_ln, hh, lnOf_not hh, if_neg (by omega), if_neg (by omega)]
  by_cases h3 : d = 65535
  · rw [if_pos h3]
    have := (many_all hd).2 h3
    simp [this]
  · rw [if_neg h3]
    have : ¬ (forX (lnsI d 16)).length = 16 := fun e => h3 ((many_all hd).1 e)
    simp [this]
end Go.Proofs.Ytahhkffghhgojaa
