/- A drawn region with a tail: operations (stores, as a rule) that come behind all that reads. The word S on worlds, by which what reads is taken first, is owed only as long as no operation of the tail has come up. It speaks of no program. -/
import Derived.Test.YtcbpppdmkhpkkaaGreatKA
import Derived.Deep.RegionHeld
namespace Go.Proofs.YtcbpppdmkhpkkaaGreat
open Go.RowKit
section
variable {P : Program} {ops : Array Oper} {Q : Exit → Act → World → Prop} {md : Region.Mode} {S : World → Prop} {tl : Nat → Bool}

/-- Whatever order is picked from here on; behind what is no part of the tail S holds. -/
def wpAnyT (P : Program) (md : Region.Mode) (ops : Array Oper) (Q : Exit → Act → World → Prop) (S : World → Prop) (tl : Nat → Bool) : Nat → Array Bool → Act → World → Prop
  | 0, L, a, w => Region.ready md ops L = [] ∧ Q .normal a w
  | k + 1, L, a, w => (Region.ready md ops L = [] → Q .normal a w) ∧
      ∀ i, i ∈ Region.ready md ops L → wpOp P ops Q i (fun b z => (tl i = false → S z) ∧ wpAnyT P md ops Q S tl k (L.setIfInBounds i true) b z) a w
theorem any_of_tail : ∀ (k : Nat) (L : Array Bool) (a : Act) (w : World), wpAnyT P md ops Q S tl k L a w → wpAny P md ops Q k L a w
  | 0, _, _, _, h => h
  | k + 1, _, _, _, h => ⟨h.1, fun i hi => wpOp_mono (fun b z g => any_of_tail k _ b z g.2) (h.2 i hi)⟩

/-- What has come up has come up behind all that it waits for. -/
def Cl (md : Region.Mode) (ops : Array Oper) (L : Array Bool) : Prop := ∀ j o, ops[j]? = some o → L.getD j false = true → ∀ e ∈ o.after, Region.binds md e = true → L.getD e.on false = true
def clB (md : Region.Mode) (ops : Array Oper) (L : Array Bool) : Bool := (List.range ops.size).all fun j => match ops[j]? with
  | none => true
  | some o => !(L.getD j false) || o.after.toList.all fun e => !(Region.binds md e) || L.getD e.on false
theorem cl_of {L : Array Bool} (h : clB md ops L = true) : Cl md ops L := by
  intro j o hj hl e he hb
  have h1 := List.all_eq_true.1 h j (List.mem_range.2 (Array.getElem?_eq_some_iff.1 hj).1)
  rw [hj] at h1
  simp only [hl, Bool.not_true, Bool.false_or, List.all_eq_true] at h1
  have h2 := h1 e (by simpa using he)
  simpa [hb] using h2
theorem Cl.set {L : Array Bool} (h : Cl md ops L) {i : Nat} (hi : i ∈ Region.ready md ops L) : Cl md ops (L.setIfInBounds i true) := by
  intro j o hj hl e he hb
  refine getD_set_true ?_
  by_cases hij : i = j
  · subst hij
    obtain ⟨_, o', ho', hall⟩ := mem_ready.1 hi
    rw [hj] at ho'
    injection ho' with ho'
    subst ho'
    exact hall e he hb
  · rw [getD_set_ne false hij] at hl
    exact h j o hj hl e he hb
/-- Does the operation j wait for i, be it by way of others? -/
def needB (md : Region.Mode) (ops : Array Oper) (i : Nat) : Nat → Nat → Bool
  | 0, j => j == i
  | k + 1, j => j == i || match ops[j]? with
    | none => false
    | some o => o.after.toList.any fun e => Region.binds md e && needB md ops i k e.on
theorem need_of {i : Nat} {L : Array Bool} (h : Cl md ops L) : ∀ (k j : Nat), needB md ops i k j = true → L.getD j false = true → L.getD i false = true
  | 0, j, hn, hl => by
    have : j = i := by simpa [needB] using hn
    rw [← this]; exact hl
  | k + 1, j, hn, hl => by
    unfold needB at hn
    rw [Bool.or_eq_true] at hn
    rcases hn with hn | hn
    · rw [← eq_of_beq hn]; exact hl
    · cases ho : ops[j]? with
      | none => rw [ho] at hn; cases hn
      | some o =>
        rw [ho] at hn
        obtain ⟨e, he, hb⟩ := List.any_eq_true.1 hn
        rw [Bool.and_eq_true] at hb
        exact need_of h k e.on hb.2 (h j o ho hl e (by simpa using he) hb.1)
/-- Every operation of the tail waits for i. -/
def waitsB (md : Region.Mode) (ops : Array Oper) (tl : Nat → Bool) (i : Nat) : Bool := (List.range ops.size).all fun j => !(tl j) || match ops[j]? with
  | none => true
  | some o => o.after.toList.any fun e => Region.binds md e && needB md ops i ops.size e.on
theorem waits_of {i j : Nat} {L : Array Bool} (hw : waitsB md ops tl i = true) (h : Cl md ops L) (hi : L.getD i true = false) (hj : j ∈ Region.ready md ops L) : tl j = false := by
  obtain ⟨_, o, ho, hall⟩ := mem_ready.1 hj
  have h1 := List.all_eq_true.1 hw j (List.mem_range.2 (Array.getElem?_eq_some_iff.1 ho).1)
  rw [ho] at h1
  cases ht : tl j with
  | false => rfl
  | true =>
    rw [ht] at h1
    simp only [Bool.not_true, Bool.false_or] at h1
    obtain ⟨e, he, hb⟩ := List.any_eq_true.1 h1
    rw [Bool.and_eq_true] at hb
    have h2 := need_of h _ _ hb.2 (hall e (by simpa using he) hb.1)
    exfalso
    have hs : i < L.size := by
      rcases Nat.lt_or_ge i L.size with h3 | h3
      · exact h3
      · simp [Array.getElem?_eq_none h3] at hi
    simp [hs] at hi h2
    rw [hi] at h2; cases h2

theorem tail_first {i : Nat} {oi : Oper} {v : Value} (hi : ops[i]? = some oi) (hsel : ∀ (j : Nat) (o : Oper) cs b, ops[j]? = some o → o.op ≠ .select cs b) (hQ : ∀ c a w, Q (.panic c) (a.put oi.dst v) w → Q (.panic c) a w) (hw : waitsB md ops tl i = true) :
    ∀ (k : Nat) (L : Array Bool) (a : Act) (w : World), Cl md ops L →
      (∀ j oj, ops[j]? = some oj → j ≠ i → L.getD j true = false → (∀ e ∈ oj.after, Region.binds md e = true → e.on ≠ i) → oi.apart ops oj = true) →
      i ∈ Region.ready md ops L → YieldsIf P ops S oi v a → S w →
      wpAnyT P md ops Q S tl k (L.setIfInBounds i true) (a.put oi.dst v) w → wpAnyT P md ops Q S tl (k + 1) L a w := by
  intro k
  induction k with
  | zero =>
    intro L a w _ _ hr hy hS H
    refine ⟨fun h => absurd (h ▸ hr) (by simp), fun j hj => ?_⟩
    rcases Decidable.em (j = i) with rfl | hne
    · exact hy.wpOp hi hS ⟨fun _ => hS, H⟩
    · exact absurd (H.1 ▸ ready_mono hj hne) (by simp)
  | succ k ih =>
    intro L a w hc hfree hr hy hS H
    refine ⟨fun h => absurd (h ▸ hr) (by simp), fun j hj => ?_⟩
    rcases Decidable.em (j = i) with rfl | hne
    · exact hy.wpOp hi hS ⟨fun _ => hS, H⟩
    have hL := (mem_ready.1 hr).1
    have htl : tl j = false := waits_of hw hc hL hj
    obtain ⟨hun, oj, hoj, hall⟩ := mem_ready.1 hj
    have hno : ∀ e ∈ oj.after, Region.binds md e = true → e.on ≠ i := by
      rintro e he hb rfl
      have h1 := hall e he hb
      have hs : e.on < L.size := by
        rcases Nat.lt_or_ge e.on L.size with h3 | h3
        · exact h3
        · simp [Array.getElem?_eq_none h3] at hL
      simp [hs] at hL h1
      rw [hL] at h1; cases h1
    have g := wpOp_putIf hoj (hfree j oj hoj hne hun hno) (fun cs b => hsel i oi cs b hi) (fun cs b => hsel j oj cs b hoj) hQ hy (H.2 j (ready_mono hj hne))
    refine wpOp_mono (fun b z hz => ?_) g
    have hSz := hz.2.1 htl
    refine ⟨fun _ => hSz, ih (L.setIfInBounds j true) b z (hc.set hj) (fun m om hm hmi hmun hmno => hfree m om hm hmi ?_ hmno) (ready_mono hr (Ne.symm hne)) hz.1 hSz ?_⟩
    · by_cases hjm : j = m
      · subst hjm; exact hun
      · rwa [getD_set_ne true hjm] at hmun
    · rw [Array.setIfInBounds_comm _ _ hne]
      exact hz.2.2
theorem tail_take {i : Nat} {oi : Oper} {v : Value} {k : Nat} {L : Array Bool} {a : Act} {w : World} (hi : ops[i]? = some oi) (hs : Region.noSelect ops = true) (hf : Region.free md ops L i = true) (hr : (Region.ready md ops L).contains i = true)
    (hw : waitsB md ops tl i = true) (hc : clB md ops L = true) (hQ : ∀ c a w, Q (.panic c) (a.put oi.dst v) w → Q (.panic c) a w) (hy : YieldsIf P ops S oi v a) (hS : S w)
    (h : wpAnyT P md ops Q S tl k (L.setIfInBounds i true) (a.put oi.dst v) w) : wpAnyT P md ops Q S tl (k + 1) L a w :=
  tail_first hi (Region.noSelect_spec hs) hQ hw k L a w (cl_of hc) (Region.free_spec hi hf) (by simpa using hr) hy hS h
/-- One operation alone may come up. -/
theorem tail_one {i : Nat} {k : Nat} {L : Array Bool} {a : Act} {w : World} {o : Oper} (hr : Region.ready md ops L = [i]) (ho : ops[i]? = some o)
    (h : ∀ K' : Act → World → Prop, Shut (∀ b z, (tl i = false → S z) → ((tl i = false → S z) → wpAnyT P md ops Q S tl k (L.setIfInBounds i true) b z) → K' b z) → if Region.wanted o (yielded ops a.tmps) = true then Oper.wp P o a w K' Q else K' (a.put o.dst undef) w) : wpAnyT P md ops Q S tl (k + 1) L a w := by
  refine ⟨fun h0 => absurd (hr ▸ h0) (by simp), fun j hj => ?_⟩
  rw [hr] at hj
  obtain rfl : j = i := by simpa using hj
  exact wpOp_step ho (fun K' hK => h K' (fun b z hS hW => hK b z ⟨hS, hW hS⟩))
theorem tail_done {L : Array Bool} {a : Act} {w : World} (hr : Region.ready md ops L = []) (h : Q .normal a w) : ∀ k, wpAnyT P md ops Q S tl k L a w
  | 0 => ⟨hr, h⟩
  | _ + 1 => ⟨fun _ => h, by rw [hr]; intro i hi; cases hi⟩
/-- The beginning. -/
theorem wp_region_tail {id : Nat} {a : Act} {w : World} (hm : P.follows .mixedOrders = true) (hS : S w.drew) (h : S w.drew → wpAnyT P .any ops Q S tl ops.size (Array.replicate ops.size false) a w.drew) : (Code.region id ops true).wp P Q a w :=
  wp_region_any hm (any_of_tail _ _ _ _ (h hS))
end
end Go.Proofs.YtcbpppdmkhpkkaaGreat
