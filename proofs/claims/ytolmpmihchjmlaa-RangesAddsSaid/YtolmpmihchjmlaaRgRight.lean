/- Contracts of the law's Right and of Awake (the fixed facts of layer 3). -/
import Derived.Test.YtolmpmihchjmlaaRgJoin
namespace Go.Proofs.Ytolmpmihchjmlaa
open Go.RowKit

theorem Got.imp {w w' : World} {S T : Nat → Prop} {m m' : Nat} {e : Ending} (h : Got w S m e w') (hs : ∀ x, S x ↔ T x) (hm : m ≤ m') : Got w T m' e w' := by
  obtain ⟨out, h1, h2, h3, h4, h5⟩ := h
  exact ⟨out, h1, h2, h3, fun x => (h4 x).trans (hs x), Nat.le_trans h5 hm⟩

/-- What Got hands on: an address, a length by name, and all that is known of the list. -/
def GotN (w : World) (S : Nat → Prop) (mx : Nat) (e : Ending) (w' : World) : Prop :=
  ∃ (a : Option Addr) (m c : Nat) (out : List Rg), e = .returned (.slice a m c) ∧ Hid (m = out.length) ∧ Hid (SlIn w' ⟨a, c, out⟩) ∧ Hid (Rt out) ∧ Hid (∀ x, Mem out x ↔ S x) ∧ m ≤ mx ∧ Hid (Frm [] w w')
theorem Got.n {w w' : World} {S : Nat → Prop} {m : Nat} {e : Ending} (h : Got w S m e w') : GotN w S m e w' := by
  obtain ⟨out, ⟨a, c, rfl, ho, hf⟩, h2, h3, h4, h5⟩ := h
  have hr := ho.rr h3
  exact ⟨a, out.length, c, out, rfl, rfl, ⟨hr.1, hr.2.1, hr.2.2.1, by have := hr.2.2.2; unfold maxLen at this; show c ≤ _; omega⟩, h2, h4, h5, hf⟩

set_option maxHeartbeats 1000000 in
theorem rightL_any {w : World} {a : Option Addr} {l : List Rg} {n cap : Nat} (h : SlIn w ⟨a, cap, l⟩) (hn : n = l.length) :
    Calls Try.prog 22 #[.slice a n cap] w (GotN w (fun x => Mem (l.take 40) x) 80) := by
  obtain ⟨h1, h2, h3, h4⟩ := h
  have h3' : l.length ≤ cap := h3
  have h4' : cap ≤ 9223372036854775807 := h4
  obtain ⟨q, hq⟩ : ∃ q, q = min n 40 := ⟨_, rfl⟩
  have hmin : min (n : Int) 40 = (q : Int) := by omega
  have cA := fun w => run_cutR_h w a n cap q (q : Int) rfl (by omega)
  obtain ⟨aA, haA⟩ : ∃ aA, aA = cutR a cap 0 := ⟨_, rfl⟩
  rw [← haA] at cA
  have hrr : Rr w aA (l.take q) := by
    rw [haA]
    have := (Rr.cut (cap := cap) h1 h3' 0).take q
    rwa [List.drop_zero] at this
  have hnil : aA = none → cap = 0 := fun h => by rw [haA] at h; have := cutR_none h2 h; omega
  have et : l.take q = l.take 40 := by
    rcases Nat.lt_or_ge n 40 with hl | hl
    · rw [List.take_of_length_le (by omega), List.take_of_length_le (by omega)]
    · rw [show q = 40 by omega]
  have SET := Lib.hid ((set_any (n := q) (cap := cap) (n' := 0) (cap' := 0) hrr (by rw [List.length_take]; omega) hnil (Rr.nil w none) rfl (fun _ => rfl) (by omega)).mono fun e w' hg => (hg.imp (m' := 80) (T := fun x => Mem (l.take 40) x) (fun x => by rw [et]; simp [Mem.nil]) (by omega)).n)
  clear h1 h2 h3 h4 h3' haA hrr hnil et hq hn
  go_enter Try.func22, Try.ntmps22
  go_wp2_with fail
  refine SET.out.mono ?_
  rintro e w' ⟨a1, m1, c1, out, rfl, hm1, hs1, hr1, hmem1, hle1, hf1⟩
  have FIN : Hid (GotN w (fun x => Mem (l.take 40) x) 80 (.returned (.slice a1 m1 c1)) w') := ⟨a1, m1, c1, out, rfl, hm1, hs1, hr1, hmem1, hle1, hf1⟩
  clear hm1 hs1 hr1 hmem1 hle1 hf1
  go_wp2
  go_ret
  exact FIN.out

theorem rr_lit (W : World) (l : List Rg) (hb : Bd l) (cs : Array Value) (hcs : cs.toList = fl l) : Rr (W.alloc (.cells cs 51)) (some ⟨W.heap.size, 0, none⟩) l := by
  have hw := Whole.made W 51 cs
  refine ⟨hb, fun _ => ⟨W.heap.size, 0, rfl, fun i hi => ?_⟩⟩
  have f := fl_at l i hi
  rw [← hcs] at f
  rw [Nat.zero_add, hw.cell, hw.cell, ← Array.getElem?_toList, ← Array.getElem?_toList]
  exact f

theorem rt_a : Rt [((1, 3) : Rg), (5, 6)] := ⟨by decide, by decide⟩
theorem rt_b : Rt [((1, 6) : Rg)] := ⟨by decide, by decide⟩
theorem rt_c : Rt [((1, 2) : Rg), (4, 6)] := ⟨by decide, by decide⟩

set_option maxRecDepth 100000 in
set_option maxHeartbeats 4000000 in
theorem awake3_any (w : World) : Calls Try.prog 21 #[] w fun e w' => e = .returned (.bool true) ∧ Frm [] w w' := by
  have hR : Rr (w.alloc (.cells #[.int .u64 1, .int .u64 3, .int .u64 5, .int .u64 6] 51)) (some ⟨w.heap.size, 0, none⟩) [((1, 3) : Rg), (5, 6)] := rr_lit w _ (by intro p hp; simp at hp; rcases hp with rfl | rfl <;> decide) _ rfl
  have HF0 : Hid (Frm [] w (w.alloc (.cells #[.int .u64 1, .int .u64 3, .int .u64 5, .int .u64 6] 51))) := (Frm.refl _ _).alloc _
  have ADD := Lib.hid ((add_some (n := 2) (cap := 2) (r1 := 3) (r2 := 5) hR rt_a rfl (by omega) (by omega) (by intro h; cases h) (by omega) (by omega) (by omega)).mono fun e w' hg => (hg.imp (m' := 3) (T := Mem [((1, 6) : Rg)]) (fun x => by simp only [mem_cons, Mem.nil, or_false]; omega) (by omega)).n)
  clear hR
  go_enter Try.func21, Try.ntmps21
  go_wp2_with fail
  refine ADD.out.mono ?_
  rintro e w1 ⟨a1, m1, c1, out, rfl, hm1, hs1, hr1, hmem1, hle1, hf1⟩
  obtain rfl : out = [((1, 6) : Rg)] := rt_uniq hr1.out rt_b hmem1.out
  obtain rfl : m1 = 1 := hm1.out
  clear hr1 hmem1 hle1 hm1 ADD
  have REM := Lib.hid ((remove_some (n := 1) (cap := c1) (r1 := 2) (r2 := 4) hs1.out.1 rt_b rfl hs1.out.2.2.1 hs1.out.2.2.2 hs1.out.2.1 (by omega) (by omega) (by omega)).mono fun e w' hg => (hg.imp (m' := 2) (T := Mem [((1, 2) : Rg), (4, 6)]) (fun x => by simp only [mem_cons, Mem.nil, or_false]; omega) (by omega)).n)
  go_wp2_with fail
  refine REM.out.mono ?_
  rintro e w2 ⟨a2, m2, c2, out, rfl, hm2, hs2, hr2, hmem2, hle2, hf2⟩
  obtain rfl : out = [((1, 2) : Rg), (4, 6)] := rt_uniq hr2.out rt_c hmem2.out
  obtain rfl : m2 = 2 := hm2.out
  clear hr2 hmem2 hle2 hm2 REM
  obtain ⟨b1, o1, h1, hc1⟩ := (hs1.out.keep hf2.out).1.2 (by simp)
  obtain ⟨b2, o2, h2, hc2⟩ := hs2.out.1.2 (by simp)
  have h1' : a1 = some ⟨b1, o1, none⟩ := h1
  have h2' : a2 = some ⟨b2, o2, none⟩ := h2
  subst h1' h2'
  have d0 := (hc1 0 (by simp)).1
  have d1 := (hc1 0 (by simp)).2
  have d2 := (hc2 1 (by simp)).1
  have d3 := (hc2 1 (by simp)).2
  simp at d0 d1 d2 d3
  have GAP := Lib.hid (gap_any (cap := c1) (x := 3) (g := 6) (hs1.out.keep hf2.out).1 rt_b (n := 1) rfl (by omega) ⟨by omega, by simp [mem_cons, Mem.nil], fun m h1 h2 => by simp only [mem_cons, Mem.nil, or_false]; omega⟩)
  have e1 := eql_rg 1 6 1 6
  have e2 := eql_rg 4 6 4 6
  have HFF : Hid (Frm [] w w2) := (HF0.out.trans hf1.out (U := []) (by simp) (by simp)).trans hf2.out (by simp) (by simp)
  clear hc1 hc2 h1 h2 hs1 hs2 hf1 hf2
  go_wp2_with fail
  refine GAP.out.mono ?_
  rintro e w3 ⟨rfl, hf3⟩
  have HF3 : Hid (Frm [] w w3) := HFF.out.trans hf3 (by simp) (by simp)
  clear hf3 GAP
  go_wp2
  go_ret
  exact ⟨rfl, HF3.out⟩
end Go.Proofs.Ytolmpmihchjmlaa
