/- Mathematics of sorted nodes: texts in order, where a key stands, what comes of putting, taking away, listing; the same nodes in another order. It speaks of no program. -/
import Derived.Test.YtchhbmhnjknhaaaRtAt
import Derived.Test.YtchhbmhnjknhaaaRtSame
import Derived.Lib.Strings
import Derived.Lib.Bytealg
namespace Go.Proofs.Ytchhbmhnjknhaaa
open Go.RowKit

/-- Texts in order, as Go compares them. -/
def kl (a b : ByteArray) : Bool := Op.bytesLess a.toList b.toList
theorem less_irr : ∀ a : List UInt8, Op.bytesLess a a = false
  | [] => rfl
  | x :: a => by simp [Op.bytesLess, less_irr a]
theorem less_cons (x y : UInt8) (a b : List UInt8) : Op.bytesLess (x :: a) (y :: b) = true ↔ x < y ∨ (x = y ∧ Op.bytesLess a b = true) := by simp [Op.bytesLess]
theorem less_trans : ∀ a b c : List UInt8, Op.bytesLess a b = true → Op.bytesLess b c = true → Op.bytesLess a c = true
  | [], [], c, h, _ => by simp [Op.bytesLess] at h
  | _ :: _, [], c, h, _ => by simp [Op.bytesLess] at h
  | _, _ :: _, [], _, h => by simp [Op.bytesLess] at h
  | [], _ :: _, _ :: _, _, _ => rfl
  | x :: a, y :: b, z :: c, h, k => by
    rw [less_cons] at h k ⊢
    rcases h with h | ⟨rfl, h⟩
    · rcases k with k | ⟨rfl, k⟩
      · exact .inl (UInt8.lt_trans h k)
      · exact .inl h
    · rcases k with k | ⟨rfl, k⟩
      · exact .inl k
      · exact .inr ⟨rfl, less_trans a b c h k⟩
theorem less_tot : ∀ a b : List UInt8, Op.bytesLess a b = false → Op.bytesLess b a = false → a = b
  | [], [], _, _ => rfl
  | [], _ :: _, h, _ => by simp [Op.bytesLess] at h
  | _ :: _, [], _, h => by simp [Op.bytesLess] at h
  | x :: a, y :: b, h, k => by
    have h' : ¬ (x < y ∨ (x = y ∧ Op.bytesLess a b = true)) := by rw [← less_cons, h]; simp
    have k' : ¬ (y < x ∨ (y = x ∧ Op.bytesLess b a = true)) := by rw [← less_cons, k]; simp
    have e : x = y := by
      rcases UInt8.lt_or_eq_of_le (UInt8.not_lt.1 (fun h => h' (.inl h))) with h1 | h1
      · exact absurd (.inl h1) k'
      · exact h1.symm
    subst e
    rw [less_tot a b (by simpa using fun h => h' (.inr ⟨rfl, h⟩)) (by simpa using fun h => k' (.inr ⟨rfl, h⟩))]
theorem cmp_lt : ∀ a b : List UInt8, decide (Lib.compareBytes a b < 0) = Op.bytesLess a b
  | [], [] => rfl
  | [], _ :: _ => rfl
  | _ :: _, [] => rfl
  | x :: a, y :: b => by
    unfold Lib.compareBytes Op.bytesLess
    by_cases h : x < y
    · simp [h]
    · by_cases k : y < x
      · have : ¬ x = y := by rintro rfl; exact absurd k (UInt8.lt_irrefl _)
        simp [h, k, this]
      · have e : x = y := UInt8.le_antisymm (UInt8.not_lt.1 k) (UInt8.not_lt.1 h)
        subst e
        simp [UInt8.lt_irrefl, cmp_lt a b]
theorem cmp_eq0 : ∀ a b : List UInt8, (Lib.compareBytes a b == 0) = (a == b)
  | [], [] => rfl
  | [], _ :: _ => rfl
  | _ :: _, [] => rfl
  | x :: a, y :: b => by
    unfold Lib.compareBytes
    by_cases h : x < y
    · have : ¬ x = y := by rintro rfl; exact absurd h (UInt8.lt_irrefl _)
      simp [h, this]
    · by_cases k : y < x
      · have : ¬ x = y := by rintro rfl; exact absurd k (UInt8.lt_irrefl _)
        simp [h, k, this]
      · have e : x = y := UInt8.le_antisymm (UInt8.not_lt.1 k) (UInt8.not_lt.1 h)
        subst e
        have := cmp_eq0 a b
        simp [UInt8.lt_irrefl] at this ⊢
        exact this
theorem kl_irr (a : ByteArray) : kl a a = false := less_irr _
theorem kl_trans {a b c : ByteArray} (h : kl a b = true) (k : kl b c = true) : kl a c = true := less_trans _ _ _ h k
theorem ba_eq {a b : ByteArray} (h : a.toList = b.toList) : a = b := by
  rw [ByteArray.toList_eq, ByteArray.toList_eq] at h
  exact ByteArray.ext (Array.toList_inj.1 h)
theorem kl_tot {a b : ByteArray} (h : kl a b = false) (k : kl b a = false) : a = b := ba_eq (less_tot _ _ h k)
theorem kl_ne {a b : ByteArray} (h : kl a b = true) : a ≠ b := by rintro rfl; rw [kl_irr] at h; cases h
theorem kl_asym {a b : ByteArray} (h : kl a b = true) : kl b a = false := by
  cases e : kl b a with
  | false => rfl
  | true => have := kl_trans h e; rw [kl_irr] at this; cases this
/-- What is not below s, is below or is t; and so on. -/
theorem kl_le {a b c : ByteArray} (h : kl a c = false) (k : kl a b = true) : kl b c = false := by
  cases e : kl b c with
  | false => rfl
  | true => have := kl_trans k e; rw [h] at this; cases this

/-- Does a text begin so? -/
def pfx (P K : ByteArray) : Bool := Lib.hasPrefix K.data.toList P.data.toList
theorem pfx_less : ∀ p k : List UInt8, p.isPrefixOf k = true → Op.bytesLess k p = false
  | [], k, _ => by cases k <;> rfl
  | x :: p, [], h => by simp at h
  | x :: p, y :: k, h => by
    simp only [List.isPrefixOf_cons_cons, Bool.and_eq_true, beq_iff_eq] at h
    obtain ⟨rfl, h⟩ := h
    simp [Op.bytesLess, pfx_less p k h]
theorem pfx_mid : ∀ p k k' : List UInt8, p.isPrefixOf k' = true → Op.bytesLess k p = false → Op.bytesLess k k' = true → p.isPrefixOf k = true
  | [], k, _, _, _, _ => by simp
  | x :: p, [], k', h, h1, _ => by simp [Op.bytesLess] at h1
  | x :: p, y :: k, [], h, _, _ => by simp at h
  | x :: p, y :: k, z :: k', h, h1, h2 => by
    simp only [List.isPrefixOf_cons_cons, Bool.and_eq_true, beq_iff_eq] at h ⊢
    obtain ⟨rfl, h⟩ := h
    have h1' : ¬ (y < x ∨ (y = x ∧ Op.bytesLess k p = true)) := by rw [← less_cons, h1]; simp
    rw [less_cons] at h2
    rcases h2 with h2 | ⟨rfl, h2⟩
    · exact absurd (.inl h2) h1'
    · exact ⟨rfl, pfx_mid p k k' h (by simpa using fun h => h1' (.inr ⟨rfl, h⟩)) h2⟩
theorem kl_data (a b : ByteArray) : kl a b = Op.bytesLess a.data.toList b.data.toList := by unfold kl; rw [Lib.toList_data, Lib.toList_data]
theorem pfx_ge {P K : ByteArray} (h : pfx P K = true) : kl K P = false := by rw [kl_data]; exact pfx_less _ _ h
theorem pfx_between {P K K' : ByteArray} (h : pfx P K' = true) (h1 : kl K P = false) (h2 : kl K K' = true) : pfx P K = true := by rw [kl_data] at h1 h2; exact pfx_mid _ _ _ h h1 h2

/-- Nodes in order. -/
def Srt (L : List Nd) : Prop := L.Pairwise (fun x y => kl x.k y.k = true)
instance : Inhabited Nd := ⟨{}⟩
theorem Srt.at {L : List Nd} (h : Srt L) {i j : Nat} (hij : i < j) (hj : j < L.length) : kl (L.getD i default).k (L.getD j default).k = true := by
  have hi : i < L.length := by omega
  have := List.pairwise_iff_getElem.1 h i j hi hj hij
  simpa [hi, hj] using this
/-- Where a key stands, or would stand; is it there? -/
def ixN (L : List Nd) (s : ByteArray) : Nat := L.findIdx (fun d => !kl d.k s)
theorem ixN_le (L : List Nd) (s : ByteArray) : ixN L s ≤ L.length := List.findIdx_le_length
theorem ixN_lo {L : List Nd} {s : ByteArray} {j : Nat} (h : j < ixN L s) : kl (L.getD j default).k s = true := by
  have hj : j < L.length := Nat.lt_of_lt_of_le h (ixN_le L s)
  have := List.not_of_lt_findIdx h
  have e : L.getD j default = L[j] := by simp [hj]
  rw [e]
  simpa using this
theorem ixN_at {L : List Nd} {s : ByteArray} (h : ixN L s < L.length) : kl (L.getD (ixN L s) default).k s = false := by
  have h1 := List.findIdx_getElem (p := fun d : Nd => !kl d.k s) (w := h)
  have e : L.getD (ixN L s) default = L[ixN L s] := by simp [h]
  rw [e]
  have h2 : (!kl L[ixN L s].k s) = true := h1
  simpa using h2
theorem ixN_hi {L : List Nd} (hs : Srt L) {s : ByteArray} {j : Nat} (h : ixN L s ≤ j) (hj : j < L.length) : kl (L.getD j default).k s = false := by
  rcases Nat.lt_or_ge (ixN L s) j with h1 | h1
  · exact kl_le (ixN_at (by omega)) (hs.at h1 hj)
  · have e : j = ixN L s := by omega
    subst e; exact ixN_at hj
theorem ixN_of {L : List Nd} {s : ByteArray} {r : Nat} (hr : r ≤ L.length) (hlo : ∀ t, t < r → kl (L.getD t default).k s = true) (hhi : ∀ t, r ≤ t → t < L.length → kl (L.getD t default).k s = false) : ixN L s = r := by
  rcases Nat.lt_trichotomy (ixN L s) r with h | h | h
  · have := ixN_at (L := L) (s := s) (by omega); rw [hlo _ h] at this; cases this
  · exact h
  · have h1 := ixN_lo h; have := ixN_le L s; rw [hhi r (Nat.le_refl _) (by omega)] at h1; cases h1
def isN (L : List Nd) (s : ByteArray) : Bool := decide (ixN L s < L.length) && decide ((L.getD (ixN L s) default).k = s)
theorem isN_iff {L : List Nd} (hs : Srt L) {s : ByteArray} : isN L s = true ↔ ∃ d ∈ L, d.k = s := by
  unfold isN
  rw [Bool.and_eq_true, decide_eq_true_eq, decide_eq_true_eq]
  constructor
  · rintro ⟨h1, h2⟩
    exact ⟨_, by simp [h1], h2⟩
  · rintro ⟨d, hd, rfl⟩
    obtain ⟨i, hi, rfl⟩ := List.getElem_of_mem hd
    have hi' : L.getD i default = L[i] := by simp [hi]
    have e : ixN L L[i].k = i := ixN_of (by omega) (fun t ht => by have := hs.at ht hi; rwa [hi'] at this) (fun t h1 h2 => by
      rcases Nat.lt_or_ge i t with h3 | h3
      · have := kl_asym (hs.at h3 h2); rwa [hi'] at this
      · have : t = i := by omega
        subst this; rw [hi']; exact kl_irr _)
    rw [e, hi']
    exact ⟨hi, rfl⟩
/-- The node with a key. -/
theorem isN_node {L : List Nd} (hs : Srt L) {d : Nd} (hd : d ∈ L) : isN L d.k = true ∧ L.getD (ixN L d.k) default = d := by
  have h := (isN_iff hs).2 ⟨d, hd, rfl⟩
  refine ⟨h, ?_⟩
  unfold isN at h
  rw [Bool.and_eq_true, decide_eq_true_eq, decide_eq_true_eq] at h
  obtain ⟨i, hi, rfl⟩ := List.getElem_of_mem hd
  have hi' : L.getD i default = L[i] := by simp [hi]
  rcases Nat.lt_trichotomy (ixN L L[i].k) i with h1 | h1 | h1
  · have := kl_ne (hs.at h1 hi); rw [h.2, hi'] at this; exact absurd rfl this
  · rw [h1, hi']
  · have := kl_ne (hs.at h1 h.1); rw [h.2, hi'] at this; exact absurd rfl this
theorem isN_split {L : List Nd} {s : ByteArray} (h : isN L s = true) : ∃ d, L = L.take (ixN L s) ++ d :: L.drop (ixN L s + 1) ∧ d.k = s ∧ L.getD (ixN L s) default = d ∧ ixN L s < L.length := by
  unfold isN at h
  rw [Bool.and_eq_true, decide_eq_true_eq, decide_eq_true_eq] at h
  refine ⟨L.getD (ixN L s) default, ?_, h.2, rfl, h.1⟩
  have e : L.getD (ixN L s) default = L[ixN L s]'h.1 := by simp [h.1]
  rw [e]
  conv => lhs; rw [← List.take_append_drop (ixN L s) L]
  congr 1
  exact List.drop_eq_getElem_cons h.1

/-- Sorted nodes with one more, with one less. -/
theorem Srt.put {L : List Nd} (hs : Srt L) {d : Nd} (h : isN L d.k = false) : Srt (L.take (ixN L d.k) ++ d :: L.drop (ixN L d.k)) := by
  unfold Srt at hs ⊢
  have hs0 := hs
  rw [← List.take_append_drop (ixN L d.k) L, List.pairwise_append] at hs
  have lo : ∀ x ∈ L.take (ixN L d.k), kl x.k d.k = true := by
    intro x hx
    obtain ⟨i, hi, rfl⟩ := List.getElem_of_mem hx
    rw [List.length_take] at hi
    have := ixN_lo (L := L) (s := d.k) (j := i) (by omega)
    have e : L.getD i default = L[i]'(by omega) := by simp [show i < L.length by omega]
    rw [e] at this
    simpa using this
  have hi : ∀ x ∈ L.drop (ixN L d.k), kl d.k x.k = true := by
    intro x hx
    have hne : x.k ≠ d.k := by
      intro e
      have := (isN_iff hs0).2 ⟨x, List.mem_of_mem_drop hx, e⟩
      rw [h] at this; cases this
    obtain ⟨i, hi, rfl⟩ := List.getElem_of_mem hx
    rw [List.length_drop] at hi
    have := ixN_hi hs0 (s := d.k) (j := ixN L d.k + i) (by omega) (by omega)
    have e : L.getD (ixN L d.k + i) default = L[ixN L d.k + i]'(by omega) := by simp [show ixN L d.k + i < L.length by omega]
    rw [e] at this
    rw [List.getElem_drop] at hne ⊢
    cases e2 : kl d.k (L[ixN L d.k + i]'(by omega)).k with
    | true => rfl
    | false => exact absurd (kl_tot this e2) hne
  rw [List.pairwise_append, List.pairwise_cons]
  exact ⟨hs.1, ⟨hi, hs.2.1⟩, fun a ha b hb => by
    rcases List.mem_cons.1 hb with rfl | hb
    · exact lo a ha
    · exact hs.2.2 a ha b hb⟩
theorem Srt.same {A C : List Nd} {d e : Nd} (hs : Srt (A ++ d :: C)) (h : e.k = d.k) : Srt (A ++ e :: C) := by
  unfold Srt at hs ⊢
  rw [List.pairwise_append, List.pairwise_cons] at hs ⊢
  refine ⟨hs.1, ⟨by rw [h]; exact hs.2.1.1, hs.2.1.2⟩, fun a ha b hb => ?_⟩
  rcases List.mem_cons.1 hb with rfl | hb
  · rw [h]; exact hs.2.2 a ha d (by simp)
  · exact hs.2.2 a ha b (by simp [hb])
theorem Srt.less {A C : List Nd} {d : Nd} (hs : Srt (A ++ d :: C)) : Srt (A ++ C) := by
  unfold Srt at hs ⊢
  rw [List.pairwise_append, List.pairwise_cons] at hs
  rw [List.pairwise_append]
  exact ⟨hs.1, hs.2.1.2, fun a ha b hb => hs.2.2 a ha b (by simp [hb])⟩
theorem Srt.filter {L : List Nd} (hs : Srt L) (p : Nd → Bool) : Srt (L.filter p) := List.Pairwise.filter p hs
/-- Sorted nodes are known by which they are. -/
theorem Srt.eq : ∀ {L M : List Nd}, Srt L → Srt M → L.Perm M → L = M
  | [], M, _, _, h => (List.Perm.nil_eq h)
  | x :: L, [], _, _, h => absurd h.length_eq (by simp)
  | x :: L, y :: M, hL, hM, h => by
    unfold Srt at hL hM
    rw [List.pairwise_cons] at hL hM
    have e : x = y := by
      have h1 : x ∈ y :: M := h.subset (by simp)
      have h2 : y ∈ x :: L := h.symm.subset (by simp)
      rcases List.mem_cons.1 h1 with h1 | h1
      · exact h1
      · rcases List.mem_cons.1 h2 with h2 | h2
        · exact h2.symm
        · have := kl_trans (hL.1 y h2) (hM.1 x h1)
          rw [kl_irr] at this; cases this
    subst e
    rw [Srt.eq hL.2 hM.2 (List.Perm.cons_inv h)]
/-- What begins so lies side by side. -/
theorem pfx_run : ∀ {L : List Nd} (_ : Srt L) (P : ByteArray) (_ : ∀ d ∈ L, kl d.k P = false), L.takeWhile (fun d => pfx P d.k) = L.filter (fun d => pfx P d.k)
  | [], _, _, _ => rfl
  | x :: L, hs, P, hP => by
    unfold Srt at hs
    rw [List.pairwise_cons] at hs
    rw [List.takeWhile_cons, List.filter_cons]
    by_cases h : pfx P x.k = true
    · rw [if_pos h, if_pos h, pfx_run hs.2 P (fun d hd => hP d (by simp [hd]))]
    · rw [if_neg h, if_neg h]
      symm
      rw [List.filter_eq_nil_iff]
      intro d hd h2
      exact h (pfx_between h2 (hP x (by simp)) (hs.1 d hd))
theorem pfx_list {L : List Nd} (hs : Srt L) (P : ByteArray) : (L.drop (ixN L P)).takeWhile (fun d => pfx P d.k) = L.filter (fun d => pfx P d.k) := by
  have h1 : Srt (L.drop (ixN L P)) := List.Pairwise.sublist (List.drop_sublist _ _) hs
  rw [pfx_run h1 P (fun d hd => by
    obtain ⟨i, hi, rfl⟩ := List.getElem_of_mem hd
    rw [List.length_drop] at hi
    have := ixN_hi hs (s := P) (j := ixN L P + i) (by omega) (by omega)
    have e : L.getD (ixN L P + i) default = L[ixN L P + i]'(by omega) := by simp [show ixN L P + i < L.length by omega]
    rw [e] at this
    rw [List.getElem_drop]; exact this)]
  conv => rhs; rw [← List.take_append_drop (ixN L P) L, List.filter_append]
  have : (L.take (ixN L P)).filter (fun d => pfx P d.k) = [] := by
    rw [List.filter_eq_nil_iff]
    intro d hd h
    obtain ⟨i, hi, rfl⟩ := List.getElem_of_mem hd
    rw [List.length_take] at hi
    have h1 := ixN_lo (L := L) (s := P) (j := i) (by omega)
    have e : L.getD i default = L[i]'(by omega) := by simp [show i < L.length by omega]
    rw [e] at h1
    rw [List.getElem_take] at h
    rw [pfx_ge h] at h1; cases h1
  rw [this, List.nil_append]

/-- The document's nodes, in any order, and the program's, sorted. -/
structure Alike (L : List Nd) (X : List Nx) : Prop where
  srt : Srt L
  perm : (nds X).Perm L
theorem nds_len' (X : List Nx) : (nds X).length = X.length := by simp [nds]
theorem Alike.len {L : List Nd} {X : List Nx} (h : Alike L X) : L.length = X.length := by rw [← h.perm.length_eq, nds_len']
theorem nds_getD {X : List Nx} {i : Nat} : (nds X).getD i default = (X.getD i default).t := by
  simp only [nds, List.getD, List.getElem?_map]
  cases X[i]? <;> rfl
theorem atN_iff {X : List Nx} {s : ByteArray} : atN X s < X.length ↔ ∃ d ∈ nds X, d.k = s := by
  unfold atN
  rw [List.findIdx_lt_length]
  constructor
  · rintro ⟨x, hx, h⟩
    exact ⟨x.t, List.mem_map.2 ⟨x, hx, rfl⟩, of_decide_eq_true h⟩
  · rintro ⟨d, hd, h⟩
    obtain ⟨x, hx, rfl⟩ := List.mem_map.1 hd
    exact ⟨x, hx, decide_eq_true h⟩
theorem Alike.there {L : List Nd} {X : List Nx} (h : Alike L X) (s : ByteArray) : isN L s = decide (atN X s < X.length) := by
  rw [Bool.eq_iff_iff, isN_iff h.srt, decide_eq_true_eq, atN_iff]
  exact ⟨fun ⟨d, h1, h2⟩ => ⟨d, h.perm.symm.subset h1, h2⟩, fun ⟨d, h1, h2⟩ => ⟨d, h.perm.subset h1, h2⟩⟩
theorem Alike.node {L : List Nd} {X : List Nx} (h : Alike L X) {s : ByteArray} (hs : atN X s < X.length) : L.getD (ixN L s) default = (X.getD (atN X s) default).t := by
  have hk := atN_key hs
  have hm : (X.getD (atN X s) default).t ∈ L := h.perm.subset (List.mem_map.2 ⟨_, by simp [hs], rfl⟩)
  have := (isN_node h.srt hm).2
  rw [hk] at this
  exact this
end Go.Proofs.Ytchhbmhnjknhaaa
