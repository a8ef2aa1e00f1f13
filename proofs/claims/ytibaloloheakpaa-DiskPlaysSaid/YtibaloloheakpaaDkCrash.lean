/- Contract of Crash: some of what isn't sure stays, a bit of its last byte may be turned; what stays is sure. -/
import Derived.Test.YtibaloloheakpaaDkOps
namespace Go.Proofs.Ytibaloloheakpaa
open Go.RowKit

/-- How many bytes that aren't sure are kept. -/
def keptN (l : List Nat) (s : Nat) (keep : Int) : Nat := min keep.toNat (l.length - s)
/-- What is left behind a crash. -/
def crashed (l : List Nat) (s : Nat) (keep bit : Int) : List Nat :=
  if 0 < keptN l s keep ∧ 0 ≤ bit ∧ bit ≤ 7 then flipLast (l.take (s + keptN l s keep)) bit.toNat else l.take (s + keptN l s keep)

theorem flipLast_length {l : List Nat} (h : l ≠ []) (bit : Nat) : (flipLast l bit).length = l.length := by
  have := List.length_pos_iff.2 h
  unfold flipLast; simp; omega

theorem crashed_plain {l : List Nat} {s : Nat} {keep bit : Int} (h : ¬ (0 < keptN l s keep ∧ 0 ≤ bit ∧ bit ≤ 7)) : crashed l s keep bit = l.take (s + keptN l s keep) := if_neg h
theorem crashed_turn {l : List Nat} {s : Nat} {keep bit : Int} (h : 0 < keptN l s keep ∧ 0 ≤ bit ∧ bit ≤ 7) : crashed l s keep bit = flipLast (l.take (s + keptN l s keep)) bit.toNat := if_pos h
theorem crashed_length {l : List Nat} {s : Nat} {keep bit : Int} (hs : s ≤ l.length) : (crashed l s keep bit).length = s + keptN l s keep := by
  have h1 : s + keptN l s keep ≤ l.length := by unfold keptN; omega
  have h2 : (l.take (s + keptN l s keep)).length = s + keptN l s keep := by simp; omega
  unfold crashed
  split
  · rw [flipLast_length _ _, h2]
    intro h0; rw [h0] at h2; simp at h2; omega
  · exact h2

set_option maxHeartbeats 2000000 in
theorem crash_none {w : World} {B p : Nat} {F l : List Nat} {s room : Nat} (keep bit : Int) (h : Dk w B p F l s room) (hc : keptN l s keep = 0) :
    Calls Try.prog 14 #[.pointer (some ⟨p, 0, none⟩), .int .i64 keep, .int .i64 bit] w (DkEnd w B p F (l.take (s + keptN l s keep)) (s + keptN l s keep) room) := by
  obtain ⟨x0, hp⟩ := h.size
  have hs := h.1.2.2
  obtain ⟨k, hk⟩ : ∃ k, k = l.length := ⟨_, rfl⟩
  rw [← hk] at hp hs
  obtain ⟨m, hm⟩ : ∃ m, m = keptN l s keep := ⟨_, rfl⟩
  rw [← hm] at hc
  have hm1 : s + m ≤ k := by rw [hm, hk]; unfold keptN; omega
  have hmv : ¬ keep < 0 → (if (k : Int) - s < keep then (k : Int) - s else keep) = (m : Int) := by
    intro _; rw [hm, hk]; unfold keptN; split <;> omega
  have hmk : 0 < m → 0 ≤ keep := by rw [hm]; unfold keptN; omega
  have hlen : (l.take (s + m)).length = s + m := by simp; omega
  have c1 := hp.cell 1
  have c2 := hp.cell 2
  simp at c1 c2
  have hsub : IntKind.i64.wrap ((k : Int) - (s : Int)) = (k : Int) - s := IntWalk.i64_in _ (by omega)
  have hs2 : s ≤ 16777216 := by omega
  have hm2 : m ≤ 16777216 := by omega
  have H := Lib.hid h
  have HS := Lib.hid hs
  clear hp h hs
  have HK := Lib.hid hk; clear hk
  have HM := Lib.hid hm; clear hm
  have HMV := Lib.hid hmv; clear hmv
  have HL := Lib.hid hlen; clear hlen
  rw [← HM.out]
  subst hc
  simp only [Nat.add_zero]
  by_cases neg : keep < 0
  all_goals
    go_enter Try.func14, Try.ntmps14
    go_wp2
    go_quiet (fail)
    try rw [HMV.out neg]
    have hfq : Frm [] w (w.drewN nq) := (Frm.refl [] w).drewN nq
    go_wp2_with fail
    refine (cut_any s (H.out.keep hfq (by simp)) (by have := HK.out; omega)).mono ?_
    rintro e w1 ⟨rfl, hd1⟩
    have HD1 := Lib.hid (hd1.early hfq); clear hd1 hfq c1 c2 hsub
    obtain ⟨F1, hd1, hf1, hF1⟩ := HD1.out
    have HK1 := Lib.hid hd1
    have HF1 := Lib.hid hf1
    have HG1 := Lib.hid hF1
    clear hd1 hf1 hF1
    go_wp2_with fail
    refine (sync_any HK1.out).mono ?_
    rintro e w2 ⟨rfl, hd2⟩
    have HD2 := Lib.hid hd2; clear hd2
    go_wp2
    go_end0
    have hd2 := HD2.out
    have hl := HL.out
    simp only [Nat.add_zero] at hl
    rw [hl] at hd2
    obtain ⟨F2, hd2, hf2, hF2⟩ := hd2
    refine ⟨rfl, F2, hd2, HF1.out.trans hf2 (fun x h => h) HG1.out, fun x h => ?_⟩
    rcases hF2 x h with h1 | h1
    · exact HG1.out x h1
    · right; have := HF1.out.size; omega
set_option maxHeartbeats 2000000 in
theorem crash_keep {w : World} {B p : Nat} {F l : List Nat} {s room : Nat} (keep bit : Int) (h : Dk w B p F l s room) (hc : 0 < keptN l s keep) (hb : bit < 0 ∨ 7 < bit) :
    Calls Try.prog 14 #[.pointer (some ⟨p, 0, none⟩), .int .i64 keep, .int .i64 bit] w (DkEnd w B p F (l.take (s + keptN l s keep)) (s + keptN l s keep) room) := by
  obtain ⟨x0, hp⟩ := h.size
  have hs := h.1.2.2
  obtain ⟨k, hk⟩ : ∃ k, k = l.length := ⟨_, rfl⟩
  rw [← hk] at hp hs
  obtain ⟨m, hm⟩ : ∃ m, m = keptN l s keep := ⟨_, rfl⟩
  rw [← hm] at hc
  have hm1 : s + m ≤ k := by rw [hm, hk]; unfold keptN; omega
  have hmv : ¬ keep < 0 → (if (k : Int) - s < keep then (k : Int) - s else keep) = (m : Int) := by
    intro _; rw [hm, hk]; unfold keptN; split <;> omega
  have hmk : 0 < m → 0 ≤ keep := by rw [hm]; unfold keptN; omega
  have hlen : (l.take (s + m)).length = s + m := by simp; omega
  have c1 := hp.cell 1
  have c2 := hp.cell 2
  simp at c1 c2
  have hsub : IntKind.i64.wrap ((k : Int) - (s : Int)) = (k : Int) - s := IntWalk.i64_in _ (by omega)
  have hs2 : s ≤ 16777216 := by omega
  have hm2 : m ≤ 16777216 := by omega
  have H := Lib.hid h
  have HS := Lib.hid hs
  clear hp h hs
  have HK := Lib.hid hk; clear hk
  have HM := Lib.hid hm; clear hm
  have HMV := Lib.hid hmv; clear hmv
  have HL := Lib.hid hlen; clear hlen
  rw [← HM.out]
  have neg : ¬ keep < 0 := by have := hmk hc; omega
  have hb' : bit < 0 ∨ (0 ≤ bit ∧ 7 < bit) := by omega
  clear hb hmk
  rcases hb' with hb | ⟨hb, hb2⟩
  all_goals
    go_enter Try.func14, Try.ntmps14
    go_wp2
    go_quiet (fail)
    try rw [HMV.out neg]
    have hfq : Frm [] w (w.drewN nq) := (Frm.refl [] w).drewN nq
    go_wp2_with fail
    refine (cut_any (s + m) (H.out.keep hfq (by simp)) (by have := HK.out; omega)).mono ?_
    rintro e w1 ⟨rfl, hd1⟩
    have HD1 := Lib.hid (hd1.early hfq); clear hd1 hfq c1 c2 hsub
    obtain ⟨F1, hd1, hf1, hF1⟩ := HD1.out
    have HK1 := Lib.hid hd1
    have HF1 := Lib.hid hf1
    have HG1 := Lib.hid hF1
    clear hd1 hf1 hF1
    go_wp2_with fail
    refine (sync_any HK1.out).mono ?_
    rintro e w2 ⟨rfl, hd2⟩
    have HD2 := Lib.hid hd2; clear hd2
    go_wp2
    go_end0
    have hd2 := HD2.out
    have hl := HL.out
    rw [hl] at hd2
    obtain ⟨F2, hd2, hf2, hF2⟩ := hd2
    refine ⟨rfl, F2, hd2, HF1.out.trans hf2 (fun x h => h) HG1.out, fun x h => ?_⟩
    rcases hF2 x h with h1 | h1
    · exact HG1.out x h1
    · right; have := HF1.out.size; omega
set_option maxHeartbeats 2000000 in
theorem crash_flip {w : World} {B p : Nat} {F l : List Nat} {s room : Nat} (keep  : Int) (bit : Nat) (h : Dk w B p F l s room) (hc : 0 < keptN l s keep) (hb : bit < 8) :
    Calls Try.prog 14 #[.pointer (some ⟨p, 0, none⟩), .int .i64 keep, .int .i64 (bit : Nat)] w (DkEnd w B p F (flipLast (l.take (s + keptN l s keep)) bit) (s + keptN l s keep) room) := by
  obtain ⟨x0, hp⟩ := h.size
  have hs := h.1.2.2
  obtain ⟨k, hk⟩ : ∃ k, k = l.length := ⟨_, rfl⟩
  rw [← hk] at hp hs
  obtain ⟨m, hm⟩ : ∃ m, m = keptN l s keep := ⟨_, rfl⟩
  rw [← hm] at hc
  have hm1 : s + m ≤ k := by rw [hm, hk]; unfold keptN; omega
  have hmv : ¬ keep < 0 → (if (k : Int) - s < keep then (k : Int) - s else keep) = (m : Int) := by
    intro _; rw [hm, hk]; unfold keptN; split <;> omega
  have hmk : 0 < m → 0 ≤ keep := by rw [hm]; unfold keptN; omega
  have hlen : (l.take (s + m)).length = s + m := by simp; omega
  have c1 := hp.cell 1
  have c2 := hp.cell 2
  simp at c1 c2
  have hsub : IntKind.i64.wrap ((k : Int) - (s : Int)) = (k : Int) - s := IntWalk.i64_in _ (by omega)
  have hs2 : s ≤ 16777216 := by omega
  have hm2 : m ≤ 16777216 := by omega
  have H := Lib.hid h
  have HS := Lib.hid hs
  clear hp h hs
  have HK := Lib.hid hk; clear hk
  have HM := Lib.hid hm; clear hm
  have HMV := Lib.hid hmv; clear hmv
  have HL := Lib.hid hlen; clear hlen
  rw [← HM.out]
  have neg : ¬ keep < 0 := by have := hmk hc; omega
  clear hmk
  all_goals
    go_enter Try.func14, Try.ntmps14
    go_wp2
    go_quiet (fail)
    try rw [HMV.out neg]
    have hfq : Frm [] w (w.drewN nq) := (Frm.refl [] w).drewN nq
    go_wp2_with fail
    refine (cut_any (s + m) (H.out.keep hfq (by simp)) (by have := HK.out; omega)).mono ?_
    rintro e w1 ⟨rfl, hd1⟩
    have HD1 := Lib.hid (hd1.early hfq); clear hd1 hfq c1 c2 hsub
    obtain ⟨F1, hd1, hf1, hF1⟩ := HD1.out
    have HK1 := Lib.hid hd1
    have HF1 := Lib.hid hf1
    have HG1 := Lib.hid hF1
    clear hd1 hf1 hF1
    have HNE : Hid (l.take (s + m) ≠ []) := by intro h0; have := HL.out; rw [h0] at this; simp at this; omega
    go_wp2_with fail
    refine (turn_any bit HK1.out HNE.out (by omega)).mono ?_
    rintro e w2 ⟨rfl, hd2⟩
    obtain ⟨F2, hd2, hf2, hF2⟩ := hd2
    have HK2 := Lib.hid hd2
    have HF2 := Lib.hid hf2
    have HG2 := Lib.hid hF2
    clear hd2 hf2 hF2
    go_wp2_with fail
    refine (sync_any HK2.out).mono ?_
    rintro e w3 ⟨rfl, hd3⟩
    have HD3 := Lib.hid hd3; clear hd3
    go_wp2
    go_end0
    have hd3 := HD3.out
    rw [flipLast_length HNE.out, HL.out] at hd3
    obtain ⟨F3, hd3, hf3, hF3⟩ := hd3
    refine ⟨rfl, F3, hd3, (HF1.out.trans HF2.out (fun x h => h) HG1.out).trans hf3 (fun x h => h) (fun x h => ?_), fun x h => ?_⟩
    · rcases HG2.out x h with h1 | h1
      · exact HG1.out x h1
      · right; have := HF1.out.size; omega
    · rcases hF3 x h with h1 | h1
      · rcases HG2.out x h1 with h2 | h2
        · exact HG1.out x h2
        · right; have := HF1.out.size; omega
      · right; have := HF1.out.size; have := HF2.out.size; omega

theorem crash_any {w : World} {B p : Nat} {F l : List Nat} {s room : Nat} (keep bit : Int) (h : Dk w B p F l s room) :
    Calls Try.prog 14 #[.pointer (some ⟨p, 0, none⟩), .int .i64 keep, .int .i64 bit] w (DkEnd w B p F (crashed l s keep bit) (crashed l s keep bit).length room) := by
  rw [crashed_length h.1.2.2.1]
  by_cases h0 : keptN l s keep = 0
  · rw [crashed_plain (by omega)]; exact crash_none keep bit h h0
  · by_cases hb : 0 ≤ bit ∧ bit ≤ 7
    · rw [crashed_turn ⟨by omega, hb⟩]
      obtain ⟨t, rfl⟩ : ∃ t : Nat, bit = (t : Int) := ⟨bit.toNat, by omega⟩
      exact crash_flip keep t h (by omega) (by omega)
    · rw [crashed_plain (by omega)]; exact crash_keep keep bit h (by omega) (by omega)
end Go.Proofs.Ytibaloloheakpaa
