/- Contract of Add. -/
import Derived.Test.YtolmpmihchjmlaaRgConcat2
import Derived.StillTailTactics
namespace Go.Proofs.Ytolmpmihchjmlaa
open Go.RowKit

/-- The address of a piece from place lo on. -/
def cutR (a : Option Addr) (cap lo : Nat) : Option Addr := if cap = lo then a else a.map (·.add (lo * 2))
theorem size_rg (w : World) : (Go.sizeOf 51).run Try.prog w = .ok 2 w := by kernel_rfl
theorem run_cutR_h (w : World) (a : Option Addr) (n cap hi : Nat) (h : Int) (hh : h = (hi : Nat)) (h2 : hi ≤ cap) :
    (Instr.slice 44 (.slice a n cap) none (some (.int .i64 h)) none).run Try.prog w = .ok (.slice (cutR a cap 0) hi cap) w := by
  subst hh
  have ht' : Try.prog.underlying 44 = some (.slice (Try.prog.elem 44)) := by simp [Program.elem, Try.underlying44]
  have he : Try.prog.elem 44 = 51 := by simp [Program.elem, Try.underlying44]
  rw [run_slice_h w _ _ _ _ ht' _ _ (by omega) (by omega), he, size_rg]
  simp [Result.andThen, sliced, cutR]
theorem run_cutR_l (w : World) (a : Option Addr) (n cap lo : Nat) (l : Int) (hl : l = (lo : Nat)) (h1 : lo ≤ n) :
    (Instr.slice 44 (.slice a n cap) (some (.int .i64 l)) none none).run Try.prog w = .ok (.slice (cutR a cap lo) (n - lo) (cap - lo)) w := by
  subst hl
  have ht' : Try.prog.underlying 44 = some (.slice (Try.prog.elem 44)) := by simp [Program.elem, Try.underlying44]
  have he : Try.prog.elem 44 = 51 := by simp [Program.elem, Try.underlying44]
  rw [run_slice_l w _ _ _ _ ht' _ _ (by omega) (by omega), he, size_rg]
  simp [Result.andThen, sliced, cutR]
theorem Rr.take {w : World} {a : Option Addr} {l : List Rg} (h : Rr w a l) (k : Nat) : Rr w a (l.take k) := by
  refine ⟨fun p hp => h.1 p (List.mem_of_mem_take hp), fun h0 => ?_⟩
  have hl : (l.take k).length ≤ l.length := List.length_take_le' k l
  obtain ⟨b, off, ha, hc⟩ := h.2 (by omega)
  refine ⟨b, off, ha, fun i hi => ?_⟩
  rw [List.length_take] at hi
  rw [getD_take (by omega)]
  exact hc i (by omega)
theorem Rr.cut {w : World} {a : Option Addr} {l : List Rg} {cap : Nat} (h : Rr w a l) (hc : l.length ≤ cap) (lo : Nat) : Rr w (cutR a cap lo) (l.drop lo) := by
  refine ⟨fun p hp => h.1 p (List.mem_of_mem_drop hp), fun h0 => ?_⟩
  rw [List.length_drop] at h0
  obtain ⟨b, off, rfl, hcl⟩ := h.2 (by omega)
  refine ⟨b, off + lo * 2, ?_, fun i hi => ?_⟩
  · unfold cutR
    rw [if_neg (by omega)]
    simp [addr_add]
  · rw [List.length_drop] at hi
    rw [getD_drop]
    have := hcl (lo + i) (by omega)
    have e : off + (lo + i) * 2 = off + lo * 2 + i * 2 := by omega
    rw [e] at this
    exact this
theorem cutR_none {a : Option Addr} {cap lo : Nat} (h : a = none → cap = 0) (hc : cutR a cap lo = none) : cap - lo = 0 := by
  unfold cutR at hc
  by_cases hlo : cap = lo
  · omega
  · rw [if_neg hlo] at hc
    have := h (by simpa using hc)
    omega

/-- A call hands back right ranges of its own: those of the numbers S, so many at most. -/
def Got (w : World) (S : Nat → Prop) (m : Nat) (e : Ending) (w' : World) : Prop := ∃ out, RetR w out e w' ∧ Rt out ∧ Bd out ∧ (∀ x, Mem out x ↔ S x) ∧ out.length ≤ m

/-- The three pieces. -/
theorem got_mk {w w' : World} {ss : List Sl} {S : Nat → Prop} {m : Nat} {out : List Rg} {e : Ending} (ha : all ss = out) (hr : RetR w (all ss) e w') (h1 : Rt out) (h2 : Bd out) (h3 : ∀ x, Mem out x ↔ S x) (h4 : out.length ≤ m) : Got w S m e w' := ⟨out, by rw [← ha]; exact hr, h1, h2, h3, h4⟩
theorem retR_from {w w1 w' : World} {l : List Rg} {e : Ending} (hf : Frm [] w w1) (h : RetR w1 l e w') : RetR w l e w' := by
  obtain ⟨a, c, rfl, ho, hf2⟩ := h
  refine ⟨a, c, rfl, ?_, hf.trans hf2 (by simp) (by simp)⟩
  have hs := hf.size
  obtain ⟨o1, o2⟩ := ho
  refine ⟨o1, ?_⟩
  rcases o2 with o2 | ⟨g, cap, cur, hv, hb, r⟩
  · exact .inl o2
  · exact .inr ⟨g, cap, cur, hv, by omega, r⟩

set_option maxHeartbeats 2000000 in
theorem add_empty {w : World} {a : Option Addr} {l : List Rg} (h : Rr w a l) (hr : Rt l) {n cap : Nat} (hn : n = l.length) (hnil : a = none → cap = 0) (hsz : n ≤ 1000) {r1 r2 : Nat} (he : r2 ≤ r1) :
    Calls Try.prog 31 #[.slice a n cap, .agg #[.int .u64 r1, .int .u64 r2]] w (Got w (fun x => Mem l x ∨ (r1 ≤ x ∧ x < r2)) (n + 1)) := by
  obtain ⟨W0, hW0⟩ : ∃ W0, W0 = (w.alloc (.cells #[.slice a n cap] 44)).alloc (.cells #[.int .u64 r1, .int .u64 r2] 51) := ⟨_, rfl⟩
  obtain ⟨g2, hg2⟩ : ∃ g2, g2 = w.heap.size := ⟨_, rfl⟩
  obtain ⟨g3, hg3⟩ : ∃ g3, g3 = w.heap.size + 1 := ⟨_, rfl⟩
  have h2 : Whole W0 g2 44 #[.slice a n cap] := by rw [hW0, hg2]; exact (Whole.made w _ _).alloc _
  have h3 : Whole W0 g3 51 #[.int .u64 r1, .int .u64 r2] := by
    rw [hW0, hg3]
    have := Whole.made (w.alloc (.cells #[.slice a n cap] 44)) 51 #[.int .u64 r1, .int .u64 r2]
    simpa using this
  have hF : Frm [] w W0 := by rw [hW0]; exact ((Frm.refl _ _).alloc _).alloc _
  have HF := Lib.hid hF; clear hF
  have H := Lib.hid h; clear h
  have HR := Lib.hid hr; clear hr
  have HN := Lib.hid hn; clear hn
  have HNIL := Lib.hid hnil; clear hnil
  have HW0 := Lib.hid hW0; clear hW0
  have HG2 := Lib.hid hg2; clear hg2
  have HG3 := Lib.hid hg3; clear hg3
  have H2 := Lib.hid h2
  have c0 := h3.cell 0
  have c1 := h3.cell 1
  simp only [List.getElem?_toArray] at c0 c1
  clear h2 h3
  go_enter Try.func31, Try.ntmps31
  go_wp2_with fail
  refine (empty_any r1 r2 _).mono ?_
  rintro e w1 hbo
  obtain ⟨rfl, hf⟩ := hbo.yes he
  rw [← HW0.out] at hf
  have k2 := (hf.whole H2.out (by simp)).cell 0
  simp only [List.getElem?_toArray] at k2
  rw [HG2.out] at k2
  have HF1 := Lib.hid (HF.out.trans hf (U := []) (by simp) (by simp))
  clear hf hbo c0 c1
  go_wp2_with fail
  refine (cloneR_any (H.out.keep0 HF1.out) HN.out HNIL.out (by omega)).mono ?_
  rintro e w2 hret
  have hret2 := retR_from HF1.out hret
  obtain ⟨a2, c2, rfl, ho, hf2⟩ := hret2
  have FIN : Hid (Got w (fun x => Mem l x ∨ (r1 ≤ x ∧ x < r2)) (n + 1) (.returned (.slice a2 l.length c2)) w2) := ⟨l, ⟨a2, c2, rfl, ho, hf2⟩, HR.out, H.out.1, fun x => ⟨.inl, fun hx => hx.elim id (fun hx => by omega)⟩, by have := HN.out; omega⟩
  clear hret ho hf2 k2
  go_wp2
  go_ret
  exact FIN.out
end Go.Proofs.Ytolmpmihchjmlaa
