/- Contracts of the reference's Reader whatever is left, with a fault or without: Number, Bytes, End. -/
import Derived.Test.YtghadpihmhaepaaCD
import Derived.Test.YtghadpihmhaepaaDCqParse
import Derived.Test.YtghadpihmhaepaaCC
namespace Go.Proofs.Ytghadpihmhaepaa
open Go.RowKit
set_option maxRecDepth 100000
/-- The reader at rb has the bytes of o left (none: there was a fault); they lie in blocks below Bd. -/
def RQ (w : World) (Bd : Nat) (rb : Nat) (o : Option (List Nat)) : Prop :=
  ∃ (a : Option Addr) (l : List Nat) (cap code : Nat), Whole w rb 63 #[.slice a l.length cap, .int .i64 (code : Nat)] ∧ Bytes w a l ∧ l.length ≤ cap ∧ (a = none → cap = 0) ∧ (l ≠ [] → ∀ x, a = some x → x.block < Bd) ∧ Bd ≤ rb ∧ ((o = some l ∧ code = 0) ∨ (o = none ∧ code = 4 ∧ code < 100))
theorem RQ.keep {w w' : World} {Bd : Nat} {T : List Nat} {rb : Nat} {o : Option (List Nat)} (h : RQ w Bd rb o) (hf : Frm T w w') (hT : ∀ x ∈ T, Bd ≤ x) (hr : rb ∉ T) : RQ w' Bd rb o := by
  obtain ⟨a, l, cap, code, h1, h2, h3, h4, h5, hb, h6⟩ := h
  exact ⟨a, l, cap, code, hf.whole h1 hr, hf.bytes' h2 (fun hne x hx hm => by have h := h5 hne x hx; have h2 := hT _ hm; omega), h3, h4, h5, hb, h6⟩
theorem RQ.lt {w : World} {Bd : Nat} {rb : Nat} {o : Option (List Nat)} (h : RQ w Bd rb o) : Bd ≤ rb ∧ rb < w.heap.size := by
  obtain ⟨a, l, cap, code, h1, _, _, _, _, hb, _⟩ := h; exact ⟨hb, h1.lt⟩
theorem RQ.code {w : World} {Bd : Nat} {rb : Nat} {o : Option (List Nat)} (h : RQ w Bd rb o) : ∃ code : Nat, w.cell? ⟨rb, 1, none⟩ = some (.int .i64 (code : Nat)) ∧ (code = 0 ↔ o ≠ none) := by
  obtain ⟨a, l, cap, code, h1, _, _, _, _, _, h6⟩ := h
  refine ⟨code, h1.cell 1, ?_⟩
  rcases h6 with ⟨rfl, rfl⟩ | ⟨rfl, hc, _⟩
  · simp
  · simp [hc]
/-- Number: what was left is the number and what is left now; else there is a fault. -/
def NumQ (w : World) (Bd : Nat) (rb k : Nat) (o : Option (List Nat)) (e : Ending) (w' : World) : Prop :=
  ∃ (n : Nat) (o' : Option (List Nat)), e = .returned (.int .u64 (n : Nat)) ∧ o.bind (pW k) = o'.map (Prod.mk n) ∧ n < 256 ^ k ∧ RQ w' Bd rb o' ∧ Frm [rb] w w'
theorem val_ltq {l : List Nat} (h8 : ∀ c ∈ l, c < 256) (k : Nat) : val (l.take k) < 256 ^ k := by
  have h1 := val_lt (l.take k) (fun c hc => h8 c (List.mem_of_mem_take hc))
  have h2 : (l.take k).length ≤ k := by rw [List.length_take]; omega
  exact Nat.lt_of_lt_of_le h1 (Nat.pow_le_pow_right (by omega) h2)
theorem pow_posq (k : Nat) : 0 < 256 ^ k := Nat.pow_pos (by omega)
set_option maxHeartbeats 1000000 in
theorem rq_num {w : World} {Bd : Nat} {rb : Nat} {o : Option (List Nat)} (k : Nat) (i : Int) (hi : i = (k : Nat)) (h : RQ w Bd rb o) (hk : k ≤ 8) :
    Calls Try.prog 64 #[.pointer (some ⟨rb, 0, none⟩), .int .i64 i] w (NumQ w Bd rb k o) := by
  subst hi
  obtain ⟨a, l, cap, code, h1, h2, h3, h4, h5, hB, h6⟩ := h
  rcases h6 with ⟨rfl, rfl⟩ | ⟨rfl, hc, hc2⟩
  · by_cases hl : k ≤ l.length
    · have hR : RR w rb l a cap := ⟨h1, h2, h3, h4, fun hne x hx e => by have := h5 hne x hx; omega⟩
      refine (ref_number_ok k hR hl hk).mono ?_
      rintro e w' ⟨rfl, rfl⟩
      have hn := hR.next k
      refine ⟨_, some (l.drop k), rfl, ?_, val_ltq h2.1 k, ⟨_, l.drop k, _, 0, hn.whole, hn.bytes, hn.le, hn.nil, fun hne x hx => ?_, hB, .inl ⟨rfl, rfl⟩⟩, (Frm.refl _ _).setCell (.inl (by simp)) _⟩
      · show pW k l = _
        unfold pW; rw [if_neg (by omega)]; rfl
      · obtain ⟨y, hy, hb⟩ := cut_block hx
        rw [hb]
        exact h5 (fun h0 => hne (by rw [h0]; simp)) y hy
    · have hsh : pW k l = none := by unfold pW; rw [if_pos (by omega)]
      have c0 := h1.cell 0
      have c1 := h1.cell 1
      have f1 := h1.free 1
      simp at c0 c1
      have hW := (h1.put 1 (.int .i64 4))
      have hf : Frm [rb] w (w.setCell ⟨rb, 1, none⟩ (.int .i64 4)) := (Frm.refl _ _).setCell (.inl (by simp)) _
      have HE : Hid (NumQ w Bd rb k (some l) (.returned (.int .u64 0)) (w.setCell ⟨rb, 1, none⟩ (.int .i64 4))) := Lib.hid ⟨0, none, rfl, hsh, pow_posq _, ⟨a, l, cap, 4, by simpa using hW, hf.bytes' h2 (fun hne x hx hm => by have := h5 hne x hx; simp at hm; omega), h3, h4, h5, hB, .inr ⟨rfl, by omega, by omega⟩⟩, hf⟩
      obtain ⟨n, hn⟩ : ∃ n, n = l.length := ⟨_, rfl⟩
      rw [← hn] at c0 hl
      have hd : decide ((n : Int) < (k : Int)) = true := decide_eq_true (by omega)
      have hd2 : decide (n < k) = true := decide_eq_true (by omega)
      clear h1 h2 h3 h4 h5 hsh hW hf hn hl
      go_enter Try.func64, Try.ntmps64
      go_wp2
      go_ret
      exact HE.out
  · have c0 := h1.cell 0
    have c1 := h1.cell 1
    simp at c0 c1
    have b1 : ((code : Int) == 0) = false := by rw [beq_eq_false_iff_ne]; omega
    have b2 : ((code : Int) != 0) = true := by rw [bne_iff_ne]; omega
    have HE : Hid (NumQ w Bd rb k none (.returned (.int .u64 0)) w) := Lib.hid ⟨0, none, rfl, rfl, pow_posq _, ⟨a, l, cap, code, h1, h2, h3, h4, h5, hB, .inr ⟨rfl, hc, hc2⟩⟩, Frm.refl _ _⟩
    clear h1 h2 h3 h4 h5 hc hc2
    go_enter Try.func64, Try.ntmps64
    go_wp2
    go_ret
    exact HE.out
/-- What End says. -/
def EndC (o : Option (List Nat)) (c : Nat) : Prop := (o = some [] ∧ c = 0) ∨ (∃ l, o = some l ∧ l ≠ [] ∧ c = 5) ∨ (o = none ∧ c = 4)
set_option maxHeartbeats 1000000 in
/-- End: is all taken, without a fault? -/
theorem rq_end {w : World} {Bd : Nat} {rb : Nat} {o : Option (List Nat)} (h : RQ w Bd rb o) :
    Calls Try.prog 33 #[.pointer (some ⟨rb, 0, none⟩)] w fun e w' => ∃ c : Nat, e = .returned (.int .i64 (c : Nat)) ∧ EndC o c ∧ Frm [rb] w w' := by
  obtain ⟨a, l, cap, code, h1, h2, h3, h4, h5, hB, h6⟩ := h
  have c0 := h1.cell 0
  have c1 := h1.cell 1
  have f1 := h1.free 1
  simp at c0 c1
  rcases h6 with ⟨rfl, rfl⟩ | ⟨rfl, hc, hc2⟩
  · cases l with
    | nil =>
      simp at c0
      clear h1 h2 h3 h4 h5
      go_enter Try.func33, Try.ntmps33
      go_wp2
      go_ret
      exact ⟨0, rfl, .inl ⟨rfl, rfl⟩, Frm.refl _ _⟩
    | cons y l =>
      obtain ⟨m, hm⟩ : ∃ m, m = (y :: l).length := ⟨_, rfl⟩
      rw [← hm] at c0
      have hm0 : 0 < m := by rw [hm]; simp
      have hd : decide ((0 : Int) < (m : Int)) = true := decide_eq_true (by omega)
      have hd2 : decide (0 < m) = true := decide_eq_true hm0
      clear h1 h2 h3 h4 h5 hm
      go_enter Try.func33, Try.ntmps33
      go_wp2
      go_ret
      exact ⟨5, rfl, .inr (.inl ⟨_, rfl, by simp, rfl⟩), (Frm.refl _ _).setCell (.inl (by simp)) _⟩
  · have b1 : ((code : Int) == 0) = false := by rw [beq_eq_false_iff_ne]; omega
    have HC := Lib.hid hc
    clear hc h1 h2 h3 h4 h5
    go_enter Try.func33, Try.ntmps33
    go_wp2
    go_ret
    exact ⟨code, rfl, .inr (.inr ⟨rfl, HC.out⟩), Frm.refl _ _⟩
/-- A reader with the fault 23. -/
def RqF (w : World) (rb : Nat) : Prop := ∃ (v : Value), Whole w rb 63 #[v, .int .i64 23]
set_option maxHeartbeats 1000000 in
theorem rq_fail {w : World} {Bd : Nat} {rb : Nat} {l : List Nat} (h : RQ w Bd rb (some l)) :
    Calls Try.prog 65 #[.pointer (some ⟨rb, 0, none⟩), .int .i64 23] w fun e w' => e = .returned (.tuple #[]) ∧ RqF w' rb ∧ Frm [rb] w w' := by
  obtain ⟨a, l', cap, code, h1, h2, h3, h4, h5, hB, h6⟩ := h
  rcases h6 with ⟨e, rfl⟩ | ⟨e, _, _⟩
  rotate_left 1
  · cases e
  have c1 := h1.cell 1
  have f1 := h1.free 1
  simp at c1
  have FIN : Hid (RqF (w.setCell ⟨rb, 1, none⟩ (.int .i64 23)) rb) := Lib.hid ⟨_, by simpa using h1.put 1 (.int .i64 23)⟩
  clear h1 h2 h3 h4 h5 e
  go_enter Try.func65, Try.ntmps65
  go_wp2
  go_end0
  exact ⟨rfl, FIN.out, (Frm.refl _ _).setCell (.inl (by simp)) _⟩
set_option maxHeartbeats 1000000 in
theorem rqf_end {w : World} {rb : Nat} (h : RqF w rb) :
    Calls Try.prog 33 #[.pointer (some ⟨rb, 0, none⟩)] w fun e w' => e = .returned (.int .i64 23) ∧ Frm [] w w' := by
  obtain ⟨v, h1⟩ := h
  have c1 := h1.cell 1
  simp at c1
  clear h1
  go_enter Try.func33, Try.ntmps33
  go_wp2
  go_ret
  exact ⟨rfl, Frm.refl _ _⟩
end Go.Proofs.Ytghadpihmhaepaa
