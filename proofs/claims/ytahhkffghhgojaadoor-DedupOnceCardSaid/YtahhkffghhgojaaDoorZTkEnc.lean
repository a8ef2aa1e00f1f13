/- What was put is what is taken: tables as bytes and back. It speaks of no program. -/
import Derived.Test.YtahhkffghhgojaaDoorMB
import Derived.Test.YtahhkffghhgojaaDoorZTbSort
namespace Go.Proofs.YtahhkffghhgojaaDoor
open Go.RowKit
set_option maxRecDepth 100000

theorem pN_enc (k n : Nat) (rest : List Nat) (hn : n < 256 ^ k) : pN k (be k n ++ rest) = .inl (n, rest) := by
  have hl := be_length k n
  unfold pN
  rw [if_neg (by rw [List.length_append, hl]; omega), List.take_left' hl, List.drop_left' hl, val_be k n hn]
theorem pT_enc {V : List Nat → Bool} (s : ByteArray) (rest : List Nat) (hs : s.size < 4294967296) (hv : V (strL s) = true) : pT V (be 4 s.size ++ (strL s ++ rest)) = .inl (s, rest) := by
  have hl := be_length 4 s.size
  have hz : val ((be 4 s.size ++ (strL s ++ rest)).take 4) = s.size := by rw [List.take_left' hl, val_be 4 s.size hs]
  have hd : (be 4 s.size ++ (strL s ++ rest)).drop 4 = strL s ++ rest := List.drop_left' hl
  have h2 : ((be 4 s.size ++ (strL s ++ rest)).drop 4).take s.size = strL s := by rw [hd]; exact List.take_left' (strL_length s)
  unfold pT
  rw [hz, if_neg (by simp only [List.length_append, hl, strL_length]; omega), h2, if_pos hv, strOf_strL, ← List.drop_drop, hd, List.drop_left' (strL_length s)]
/-- A line as it is put. -/
def encL (x : Ln) : List Nat := be 4 x.nm.size ++ (strL x.nm ++ (be 8 x.done ++ (be 8 x.l ++ be 8 x.e)))
theorem pLn_enc {V : List Nat → Bool} (x : Ln) (rest : List Nat) (hx : x.fits) (hs : x.nm.size < 4294967296) (hv : V (strL x.nm) = true) : pLn V (encL x ++ rest) = .inl (x.wtop x.done, rest) := by
  unfold pLn encL
  simp only [List.append_assoc]
  rw [pT_enc x.nm _ hs hv]
  simp only [thn]
  rw [pN_enc 8 x.done _ hx.2.1]
  simp only
  rw [pN_enc 8 x.l _ hx.2.2.1]
  simp only
  rw [pN_enc 8 x.e _ hx.2.2.2]
  rfl
theorem badL_no {out : List Ln} {x : Ln} (h1 : 1 ≤ x.nm.size) (h2 : x.nm.size ≤ 64) (h3 : 0 < x.done) (h4 : out.length < 16) (h5 : 0 < out.length → kl (out.getD (out.length - 1) default).nm x.nm = true) : badL out x = false := by
  unfold badL
  have e1 : decide (x.nm.size = 0) = false := decide_eq_false (by omega)
  have e2 : decide (64 < x.nm.size) = false := decide_eq_false (by omega)
  have e3 : decide (x.done = 0) = false := decide_eq_false (by omega)
  have e4 : decide (out.length = 16) = false := decide_eq_false (by omega)
  rw [e1, e2, e3, e4]
  by_cases h0 : 0 < out.length
  · rw [h5 h0]; simp
  · simp [h0]
/-- Sorted lines that are done, behind others. -/
theorem pLns_enc {V : List Nat → Bool} : ∀ (Y out : List Ln) (rest : List Nat), SrtL (out ++ Y) → (∀ x ∈ Y, x.fits ∧ 1 ≤ x.nm.size ∧ x.nm.size ≤ 64 ∧ 0 < x.done ∧ V (strL x.nm) = true) → out.length + Y.length ≤ 16 →
    pLns V Y.length (out.map fun x => x.wtop x.done) (Y.flatMap encL ++ rest) = .inl ((out ++ Y).map (fun x => x.wtop x.done), rest) := by
  intro Y
  induction Y with
  | nil => intro out rest _ _ _; simp [pLns]
  | cons y Y ih =>
    intro out rest hs hy hl
    obtain ⟨g1, g2, g3, g4, g5⟩ := hy y (by simp)
    rw [List.length_cons, pLns_succ, List.flatMap_cons, List.append_assoc, pLn_enc y _ g1 (by omega) g5]
    simp only [thn]
    have hb : badL (out.map fun x => x.wtop x.done) (y.wtop y.done) = false := by
      refine badL_no g2 g3 g4 (by rw [List.length_map]; simp at hl; omega) (fun h0 => ?_)
      rw [List.length_map] at h0 ⊢
      have h1 : out.length - 1 < out.length := by omega
      rw [ln_get (by rw [List.length_map]; omega), List.getElem_map]
      exact (List.pairwise_append.1 hs).2.2 _ (List.getElem_mem h1) y (by simp)
    rw [hb]
    have h2 := ih (out ++ [y]) rest (by rw [List.append_assoc]; exact hs) (fun x hx => hy x (by simp [hx])) (by simp at hl ⊢; omega)
    rw [List.map_append, List.append_assoc] at h2
    simp at h2 ⊢
    exact h2
/-- A table as it is put. -/
def encY (Y : List Ln) : List Nat := be 1 Y.length ++ Y.flatMap encL
theorem endTb_enc {V : List Nat → Bool} (Y : List Ln) (hs : SrtL Y) (hy : ∀ x ∈ Y, x.fits ∧ 1 ≤ x.nm.size ∧ x.nm.size ≤ 64 ∧ 0 < x.done ∧ V (strL x.nm) = true) (hl : Y.length ≤ 16) : endTb V (encY Y) = .inl (Y.map fun x => x.wtop x.done) := by
  have h1 := pLns_enc (V := V) Y [] [] hs hy (by simpa using hl)
  simp only [List.map_nil, List.append_nil, List.nil_append] at h1
  unfold endTb pTb encY
  rw [pN_enc 1 Y.length _ (by omega)]
  simp only [thn]
  rw [h1]
  simp
end Go.Proofs.YtahhkffghhgojaaDoor
