/- Puts one behind the other: what the laws' loops keep. -/
import Derived.Test.YtchhbmhnjknhaaaTrAwake
import Derived.Test.YtchhbmhnjknhaaaTrKey
import Derived.Test.YtchhbmhnjknhaaaInTc
namespace Go.Proofs.Ytchhbmhnjknhaaa
open Go.RowKit

/-- The tree behind k acts: versions are small. -/
def PuRel (w : World) (p n : Nat) (u : Value) (wr : World) : Prop :=
  ∃ (k : Nat) (a : Option Addr) (cap : Nat) (X : List Nx) (qs : List Nat), k ≤ n ∧ u = .int .i64 (k : Nat) ∧ Hid (Pt wr w.heap.size p [] a cap X qs) ∧ Hid (Good (nds X)) ∧ Hid (∀ d ∈ nds X, 1 ≤ d.ver ∧ d.ver ≤ k ∧ d.ver ≤ 60) ∧ Hid (Frm [] w wr)
theorem vers_put {L : List Nd} {m : Nat} (h : ∀ d ∈ L, 1 ≤ d.ver ∧ d.ver ≤ m) (hm : m < 1000) (s : ByteArray) (v : List Nat) (want own : Nat) : ∀ d ∈ putNL L s v want own, 1 ≤ d.ver ∧ d.ver ≤ m + 1 := by
  intro d hd
  unfold putNL at hd
  by_cases hc : putNC L s v want ≠ 0
  · rw [if_pos hc] at hd
    have := h d hd; omega
  · rw [if_neg hc] at hd
    cases his : isN L s
    · rw [his, if_neg (by simp)] at hd
      rcases List.mem_append.1 hd with h1 | h1
      · have := h d (List.mem_of_mem_take h1); omega
      · rcases List.mem_cons.1 h1 with rfl | h1
        · show 1 ≤ 1 ∧ 1 ≤ m + 1; omega
        · have := h d (List.mem_of_mem_drop h1); omega
    · rw [his, if_pos rfl] at hd
      have hw : want ≤ m := by
        have hu : unwC L s want = 0 := by
          unfold putNC at hc
          by_cases hl : lenC s.size v.length ≠ 0
          · rw [if_pos hl] at hc; exact absurd hl hc
          · rw [if_neg hl] at hc; omega
        rcases unwC_ok hu with ⟨_, _, h2⟩ | ⟨h2, _⟩
        · obtain ⟨d0, e0, _, g0, hlt⟩ := isN_split his
          have hm0 : L.getD (ixN L s) default ∈ L := by simp [hlt]
          have := (h _ hm0).2
          omega
        · rw [his] at h2; cases h2
      rcases List.mem_append.1 hd with h1 | h1
      · have := h d (List.mem_of_mem_take h1); omega
      · rcases List.mem_cons.1 h1 with rfl | h1
        · show 1 ≤ (want + 1) % 18446744073709551616 ∧ (want + 1) % 18446744073709551616 ≤ m + 1
          rw [Nat.mod_eq_of_lt (by omega)]; omega
        · have := h d (List.mem_of_mem_drop h1); omega
theorem PuRel.step {w wr w2 w4 : World} {p n k : Nat} {X : List Nx} {s : ByteArray} {v : List Nat} {want own : Nat} (hp : w.heap.size ≤ p) (hk : k < n) (hk60 : k < 60) (hg : Good (nds X)) (hv : ∀ d ∈ nds X, 1 ≤ d.ver ∧ d.ver ≤ k ∧ d.ver ≤ 60) (hf : Frm [] w wr) (hf2 : Frm [] wr w2) {w3 : World} (hf3 : Frm [] w2 w3)
    (hto : PtTo w3 w4 w.heap.size p [] (putNL (nds X) s v want own)) : PuRel w p n (.int .i64 ((k + 1 : Nat) : Int)) w4 := by
  obtain ⟨a, c, Y, qs, h1, h2, h3⟩ := hto
  refine ⟨k + 1, a, c, Y, qs, by omega, rfl, Lib.hid h1, Lib.hid (by rw [h2]; exact hg.put _ _ _ _), Lib.hid (fun d hd => ?_), Lib.hid (((hf.trans hf2 (U := []) (by simp) (by simp)).trans hf3 (U := []) (by simp) (by simp)).trans h3 (by simp) (fun x hx => by simp at hx; subst hx; exact .inr hp))⟩
  rw [h2] at hd
  have := vers_put (m := k) (fun d hd => ⟨(hv d hd).1, (hv d hd).2.1⟩) (by omega) s v want own d hd
  omega
theorem PuRel.skip {w wr w2 : World} {p n k : Nat} {a : Option Addr} {cap : Nat} {X : List Nx} {qs : List Nat} (hk : k < n) (hP : Pt wr w.heap.size p [] a cap X qs) (hg : Good (nds X)) (hv : ∀ d ∈ nds X, 1 ≤ d.ver ∧ d.ver ≤ k ∧ d.ver ≤ 60) (hf : Frm [] w wr) (hf2 : Frm [] wr w2) : PuRel w p n (.int .i64 ((k + 1 : Nat) : Int)) w2 :=
  ⟨k + 1, a, cap, X, qs, by omega, rfl, Lib.hid (hP.keep hf2 (by simp) (by simp)), Lib.hid hg, Lib.hid (fun d hd => by have := hv d hd; omega), Lib.hid (hf.trans hf2 (U := []) (by simp) (by simp))⟩
end Go.Proofs.Ytchhbmhnjknhaaa
