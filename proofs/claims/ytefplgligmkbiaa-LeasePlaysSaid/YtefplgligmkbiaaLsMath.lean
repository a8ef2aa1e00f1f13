/- Sessions by their Ids: what right ones are, where one stands, what a book becomes by each call; the program's book in memory. They speak of no function. -/
import Derived.Test.YtefplgligmkbiaaSn
namespace Go.Proofs.Ytefplgligmkbiaa
open Go.RowKit

/-- Ids rise, from 1 to last. -/
structure SrtS (last : Nat) (X : List Sn) : Prop where
  rise : X.Pairwise (fun a b => a.id < b.id)
  from1 : ∀ x ∈ X, 0 < x.id ∧ x.id ≤ last
theorem getS {X : List Sn} {i : Nat} (h : i < X.length) : X.getD i default = X[i] := by simp [h]
theorem SrtS.lt {last : Nat} {X : List Sn} (h : SrtS last X) {i j : Nat} (hij : i < j) (hj : j < X.length) : (X.getD i default).id < (X.getD j default).id := by
  rw [getS (by omega), getS hj]
  exact List.pairwise_iff_getElem.1 h.rise i j (by omega) hj hij
theorem atS_eq {X : List Sn} {id k : Nat} (hk : k < X.length) (h1 : (X.getD k default).id = id) (h2 : ∀ t, t < k → (X.getD t default).id ≠ id) : atS X id = k := by
  rcases Nat.lt_trichotomy (atS X id) k with h | h | h
  · exact absurd (atS_at (X := X) (id := id) (by omega)) (h2 _ h)
  · exact h
  · exact absurd h1 (atS_before h)
theorem atS_none {X : List Sn} {id : Nat} (h : ∀ t, t < X.length → (X.getD t default).id ≠ id) : ¬ atS X id < X.length := fun h1 => h _ h1 (atS_at h1)
theorem SrtS.nil (last : Nat) : SrtS last [] := ⟨List.Pairwise.nil, by simp⟩
theorem SrtS.sub {last : Nat} {X Y : List Sn} (h : SrtS last X) (hs : Y.Sublist X) : SrtS last Y := ⟨h.rise.sublist hs, fun x hx => h.from1 x (hs.subset hx)⟩
theorem SrtS.push {last : Nat} {X : List Sn} (h : SrtS last X) (s : Sn) (h1 : ∀ x ∈ X, x.id < s.id) (h0 : 0 < s.id) (h2 : s.id ≤ last) : SrtS last (X ++ [s]) := by
  refine ⟨List.pairwise_append.2 ⟨h.rise, List.pairwise_singleton _ _, fun a ha b hb => ?_⟩, fun x hx => ?_⟩
  · simp at hb; subst hb; exact h1 a ha
  · rcases List.mem_append.1 hx with hx | hx
    · exact h.from1 x hx
    · simp at hx; subst hx; exact ⟨h0, h2⟩
theorem SrtS.more {last l' : Nat} {X : List Sn} (h : SrtS last X) (hl : last ≤ l') : SrtS l' X := ⟨h.rise, fun x hx => ⟨(h.from1 x hx).1, Nat.le_trans (h.from1 x hx).2 hl⟩⟩
theorem SrtS.ends {last : Nat} {X : List Sn} (h : SrtS last X) (i : Nat) (e : Nat) (hi : i < X.length) : SrtS last (X.set i { X.getD i default with ends := e }) := by
  have hid : (X.set i { X.getD i default with ends := e }).map Sn.id = X.map Sn.id := by
    rw [List.map_set]
    apply List.ext_getElem
    · simp
    · intro j h1 h2
      simp only [List.getElem_set, List.getElem_map]
      split
      · rename_i hji; subst hji; rw [getS hi]
      · rfl
  refine ⟨?_, fun x hx => ?_⟩
  · have := h.rise
    rw [← List.pairwise_map (f := Sn.id) (R := (· < ·))] at this ⊢
    rw [hid]; exact this
  · have hm : x.id ∈ X.map Sn.id := by rw [← hid]; exact List.mem_map_of_mem hx
    obtain ⟨y, hy, he⟩ := List.mem_map.1 hm
    rw [← he]; exact h.from1 y hy

/-- One session ahead of those behind it: what New asks of it. -/
def CondS (last : Nat) (L : List Sn) (i : Nat) : Prop := 0 < (L.getD i default).id ∧ (L.getD i default).id ≤ last ∧ 1 ≤ (L.getD i default).life ∧ (L.getD i default).life ≤ 1099511627776 ∧ (0 < i → (L.getD (i - 1) default).id < (L.getD i default).id)
instance (last : Nat) (L : List Sn) (i : Nat) : Decidable (CondS last L i) := by unfold CondS; infer_instance
def RightS (last : Nat) (L : List Sn) : Prop := L.length ≤ 16 ∧ ∀ i, i < L.length → CondS last L i
instance (last : Nat) (L : List Sn) : Decidable (RightS last L) := by unfold RightS; infer_instance
theorem RightS.srt {last : Nat} {L : List Sn} (h : RightS last L) : SrtS last L := by
  refine ⟨?_, fun x hx => ?_⟩
  · rw [List.pairwise_iff_getElem]
    intro i j hi hj hij
    have key : ∀ d i, i + d + 1 < L.length → (L.getD i default).id < (L.getD (i + d + 1) default).id := by
      intro d
      induction d with
      | zero => intro i hi2; exact (h.2 (i + 1) hi2).2.2.2.2 (by omega)
      | succ d ih =>
        intro i hi2
        have h1 := ih i (by omega)
        have h2 := (h.2 (i + (d + 1) + 1) hi2).2.2.2.2 (by omega)
        have e : i + (d + 1) + 1 - 1 = i + d + 1 := by omega
        rw [e] at h2
        exact Nat.lt_trans h1 h2
    have := key (j - i - 1) i (by omega)
    rw [show i + (j - i - 1) + 1 = j by omega, getS hi, getS hj] at this
    exact this
  · obtain ⟨i, hi, rfl⟩ := List.getElem_of_mem hx
    have := h.2 i hi
    unfold CondS at this
    rw [getS hi] at this
    exact ⟨this.1, this.2.1⟩

/-- What the calls make of the sessions. -/
def renewS (X : List Sn) (i now : Nat) : List Sn := X.set i { X.getD i default with ends := max (X.getD i default).ends (sumN now (X.getD i default).life) }
def closeS (X : List Sn) (i : Nat) : List Sn := X.take i ++ X.drop (i + 1)
def overS (now : Nat) (x : Sn) : Bool := decide (x.ends ≤ now)
def goneS (now : Nat) (X : List Sn) : List Nat := (X.filter (overS now)).map Sn.id
def leftS (now : Nat) (X : List Sn) : List Sn := X.filter (fun x => !overS now x)
theorem closeS_sub (X : List Sn) (i : Nat) : (closeS X i).Sublist X := by
  have h : (X.drop (i + 1)).Sublist (X.drop i) := List.drop_sublist_drop_left X (by omega)
  have := List.Sublist.append (List.Sublist.refl (X.take i)) h
  rwa [List.take_append_drop] at this
theorem leftS_sub (now : Nat) (X : List Sn) : (leftS now X).Sublist X := List.filter_sublist
theorem sumN_lt (a b : Nat) : sumN a b < 18446744073709551616 := by unfold sumN; split <;> omega
theorem leftS_take {now : Nat} {X : List Sn} {k : Nat} (h : k < X.length) : leftS now (X.take (k + 1)) = leftS now (X.take k) ++ if (X.getD k default).ends ≤ now then [] else [X.getD k default] := by
  rw [getS h]
  unfold leftS
  rw [List.take_succ_eq_append_getElem h, List.filter_append]
  congr 1
  by_cases h1 : X[k].ends ≤ now
  · rw [if_pos h1, List.filter_cons, if_neg (by simpa [overS] using h1)]; rfl
  · rw [if_neg h1, List.filter_cons, if_pos (by simpa [overS] using h1)]; rfl
theorem goneS_take {now : Nat} {X : List Sn} {k : Nat} (h : k < X.length) : goneS now (X.take (k + 1)) = goneS now (X.take k) ++ if (X.getD k default).ends ≤ now then [(X.getD k default).id] else [] := by
  rw [getS h]
  unfold goneS
  rw [List.take_succ_eq_append_getElem h, List.filter_append, List.map_append]
  congr 1
  by_cases h1 : X[k].ends ≤ now
  · rw [if_pos h1, List.filter_cons, if_pos (by simpa [overS] using h1)]; rfl
  · rw [if_neg h1, List.filter_cons, if_neg (by simpa [overS] using h1)]; rfl
theorem leftS_len (now : Nat) (X : List Sn) (k : Nat) : (leftS now (X.take k)).length ≤ k := Nat.le_trans (List.length_filter_le _ _) (by simp; omega)
theorem goneS_len (now : Nat) (X : List Sn) (k : Nat) : (goneS now (X.take k)).length ≤ k := by
  unfold goneS; rw [List.length_map]; exact Nat.le_trans (List.length_filter_le _ _) (by simp; omega)
theorem goneS_mem {now : Nat} {X : List Sn} : ∀ n ∈ goneS now X, ∃ x ∈ X, n = x.id := by
  intro n hn
  obtain ⟨x, hx, rfl⟩ := List.mem_map.1 hn
  exact ⟨x, (List.mem_filter.1 hx).1, rfl⟩

/-! The program's book: a number, a count, sixteen sessions. -/
def bkL (last n : Nat) (Y : List Sn) : List Value := .int .u64 (last : Nat) :: .int .i64 (n : Nat) :: snc Y
theorem bkL_length (last n : Nat) (Y : List Sn) : (bkL last n Y).length = 2 + Y.length * 3 := by simp [bkL, snc_length]; omega
theorem bkL_row (last n : Nat) (Y : List Sn) (j : Nat) : (bkL last n Y)[2 + j]? = (snc Y)[j]? := by
  rw [Nat.add_comm]; rfl
theorem bkL_one (last n : Nat) (Y : List Sn) : ∀ u ∈ bkL last n Y, u.oneCell' = true := by
  intro u hu
  simp only [bkL, List.mem_cons] at hu
  rcases hu with rfl | rfl | hu
  · rfl
  · rfl
  · exact snc_one _ u hu
/-- The program's book at p: the last Id, the sessions X, in the row Y. -/
structure Bk (w : World) (B p : Nat) (t : TypeId) (last : Nat) (X Y : List Sn) : Prop where
  book : Whole w p t (bkL last X.length Y).toArray
  pre : Y.take X.length = X
  len : Y.length = 16
  fits : ∀ y ∈ Y, y.fits
  hp : B ≤ p
  lt : last < 18446744073709551616
  srt : SrtS last X
section
variable {w w' : World} {B p : Nat} {t : TypeId} {F S : List Nat} {last : Nat} {X Y : List Sn}
theorem Bk.few (h : Bk w B p t last X Y) : X.length ≤ 16 := by
  have := congrArg List.length h.pre
  rw [List.length_take, h.len] at this; omega
theorem Bk.keep (h : Bk w B p t last X Y) (hf : Frm S w w') (hS : p ∉ S) : Bk w' B p t last X Y := { h with book := hf.whole h.book hS }
theorem Bk.fitsX (h : Bk w B p t last X Y) : ∀ x ∈ X, x.fits := fun x hx => h.fits x (by rw [← h.pre] at hx; exact List.mem_of_mem_take hx)
theorem Bk.get (h : Bk w B p t last X Y) {i : Nat} (hi : i < X.length) : Y.getD i default = X.getD i default := by
  have hl := h.len
  have hf := h.few
  rw [getS hi, getS (by omega)]
  have e : X[i]? = Y[i]? := by
    conv => lhs; rw [← h.pre]
    rw [List.getElem?_take, if_pos hi]
  rw [List.getElem?_eq_getElem hi, List.getElem?_eq_getElem (by omega)] at e
  exact (Option.some.inj e).symm
theorem Bk.cells (h : Bk w B p t last X Y) (j : Nat) : w.cell? ⟨p, 2 + j, none⟩ = (snc Y)[j]? := by
  rw [h.book.cell, List.getElem?_toArray, bkL_row]
theorem Bk.c0 (h : Bk w B p t last X Y) : w.cell? ⟨p, 0, none⟩ = some (.int .u64 (last : Nat)) := by rw [h.book.cell]; rfl
theorem Bk.c1 (h : Bk w B p t last X Y) : w.cell? ⟨p, 1, none⟩ = some (.int .i64 (X.length : Nat)) := by rw [h.book.cell]; rfl
theorem Bk.vals (h : Bk w B p t last X Y) : ValsAt w (some ⟨p, 2, none⟩) (snc X) := by
  refine .inr ⟨p, 2, rfl, fun i u hu => ?_⟩
  rw [h.cells]
  rw [← h.pre, snc_take, List.getElem?_take] at hu
  split at hu
  · exact hu
  · cases hu
theorem Bk.sl (h : Bk w B p t last X Y) (hF : p ∉ F) : SL w F (some ⟨p, 2, none⟩) X := ⟨h.vals, h.fitsX, fun _ q hq => by cases hq; exact hF⟩
theorem Bk.at (h : Bk w B p t last X Y) {i : Nat} (hi : i < X.length) :
    w.cell? ⟨p, 2 + i * 3, none⟩ = some (.int .u64 ((X.getD i default).id : Nat)) ∧ w.cell? ⟨p, 2 + i * 3 + 1, none⟩ = some (.int .u64 ((X.getD i default).ends : Nat)) ∧
      w.cell? ⟨p, 2 + i * 3 + 2, none⟩ = some (.int .u64 ((X.getD i default).life : Nat)) ∧ (X.getD i default).fits := by
  have hf := h.few
  obtain ⟨h0, h1, h2⟩ := snc_at Y i (by have := h.len; omega)
  rw [h.get hi] at h0 h1 h2
  refine ⟨by rw [h.cells]; exact h0, by rw [Nat.add_assoc, h.cells]; exact h1, by rw [Nat.add_assoc, h.cells]; exact h2, h.fitsX _ (by rw [getS hi]; exact List.getElem_mem hi)⟩
end
/-- A cell of a row of sessions is set. -/
theorem snc_set (Y : List Sn) (s : Sn) : ∀ i, i < Y.length → (((snc Y).set (i * 3) (.int .u64 (s.id : Nat))).set (i * 3 + 1) (.int .u64 (s.ends : Nat))).set (i * 3 + 2) (.int .u64 (s.life : Nat)) = snc (Y.set i s) := by
  induction Y with
  | nil => intro i hi; simp at hi
  | cons y Y ih =>
    intro i hi
    have e : snc (y :: Y) = .int .u64 (y.id : Nat) :: .int .u64 (y.ends : Nat) :: .int .u64 (y.life : Nat) :: snc Y := rfl
    rcases i with _ | i
    · rfl
    · have := ih i (by simpa using hi)
      have e2 : snc ((y :: Y).set (i + 1) s) = .int .u64 (y.id : Nat) :: .int .u64 (y.ends : Nat) :: .int .u64 (y.life : Nat) :: snc (Y.set i s) := rfl
      rw [e2, ← this, e, show (i + 1) * 3 = i * 3 + 1 + 1 + 1 by omega]
      rfl
theorem snc_ends (Y : List Sn) (i e : Nat) (hi : i < Y.length) : (snc Y).set (i * 3 + 1) (.int .u64 (e : Nat)) = snc (Y.set i { Y.getD i default with ends := e }) := by
  obtain ⟨h0, _, h2⟩ := snc_at Y i hi
  rw [← snc_set Y { Y.getD i default with ends := e } i hi]
  have h3 : i * 3 < (snc Y).length := by rw [snc_length]; omega
  have h4 : i * 3 + 2 < (snc Y).length := by rw [snc_length]; omega
  have e1 : (snc Y).set (i * 3) (.int .u64 ((Y.getD i default).id : Nat)) = snc Y := by
    rw [List.getElem?_eq_getElem h3] at h0
    rw [← Option.some.inj h0]; exact List.set_getElem_self h3
  rw [e1]
  rw [List.set_comm _ _ (by omega)]
  have e2 : (snc Y).set (i * 3 + 2) (.int .u64 ((Y.getD i default).life : Nat)) = snc Y := by
    rw [List.getElem?_eq_getElem h4] at h2
    rw [← Option.some.inj h2]; exact List.set_getElem_self h4
  rw [e2]
end Go.Proofs.Ytefplgligmkbiaa
