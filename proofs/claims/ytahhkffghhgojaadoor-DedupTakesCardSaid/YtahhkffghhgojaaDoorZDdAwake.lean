/- A table of the call's own through its calls; contract of the law's bytes; of Awake. -/
import Derived.Test.YtahhkffghhgojaaDoorZDdBeg
import Derived.Test.YtahhkffghhgojaaDoorZDdDon
import Derived.Test.YtahhkffghhgojaaDoorZDdFor
import Derived.Test.YtahhkffghhgojaaDoorZDdLast
import Derived.Test.YtahhkffghhgojaaDoorZDdWrite
import Derived.Test.YtahhkffghhgojaaDoorMA
namespace Go.Proofs.YtahhkffghhgojaaDoor
open Go.RowKit
set_option maxRecDepth 100000

/-- The program's table at g, all of it made since B; its lines are X, in some order. -/
structure DdB (B : Nat) (w : World) (g : Nat) (X : List Ln) : Prop where
  ok : TbOk X
  hg : B ≤ g
  row : ∃ (m : Option Nat) (Y : List Ln), Dd w g m Y ∧ X.Perm Y ∧ ∀ b, m = some b → B ≤ b
section
variable {B g : Nat} {w w' : World} {X : List Ln}
theorem DdB.keep {S : List Nat} (h : DdB B w g X) (hf : Frm S w w') (hS : ∀ x ∈ S, x < B ∨ w.heap.size ≤ x) : DdB B w' g X := by
  obtain ⟨m, Y, h1, h2, h3⟩ := h.row
  have hg := h.hg
  have hgl := h1.tab.lt
  refine ⟨h.ok, h.hg, m, Y, h1.keep hf (fun hm => ?_) (fun b hb hm => ?_), h2, h3⟩
  · rcases hS _ hm with h | h <;> omega
  · have h4 := h3 b hb
    have h5 := h1.map.lt b hb
    rcases hS _ hm with h | h <;> omega
theorem DdB.keep0 (h : DdB B w g X) (hf : Frm [] w w') : DdB B w' g X := h.keep hf (by simp)
theorem DdB.perm (h : DdB B w g X) {Z : List Ln} (p : X.Perm Z) : DdB B w g Z := by
  obtain ⟨m, Y, h1, h2, h3⟩ := h.row
  exact ⟨h.ok.perm p, h.hg, m, Y, h1, p.symm.trans h2, h3⟩
theorem DdB.new (w : World) : DdB w.heap.size (w.alloc (.cells #[.map none] 64)) w.heap.size [] :=
  ⟨TbOk.nil, Nat.le_refl _, none, [], Dd.new w, List.Perm.refl _, fun b hb => by cases hb⟩
theorem DdB.lt (h : DdB B w g X) : g < w.heap.size := by
  obtain ⟨m, Y, h1, _⟩ := h.row
  exact h1.tab.lt
theorem DdB.to {m : Option Nat} {X' Y' : List Ln} (h : DdTo w w' g m Y') (hg : B ≤ g) (hB : B ≤ w.heap.size) (hm : ∀ b, m = some b → B ≤ b) (ok : TbOk X') (p : X'.Perm Y') : DdB B w' g X' ∧ Frm [g] w w' := by
  obtain ⟨m', h1, h2, h3⟩ := h
  refine ⟨⟨ok, hg, m', Y', h1, p, fun b hb => ?_⟩, h2⟩
  rcases h3 b hb with h | h
  · exact hm b h
  · exact Nat.le_trans hB h
/-- Begin, Done, Forget, Last, All, Write at such a table. -/
theorem bbeg_any (h : DdB B w g X) (hB : B ≤ w.heap.size) (s : ByteArray) (q : Nat) (hs : s.size ≤ 1000000) (hq : q < 18446744073709551616) :
    Calls Tryd.prog 9 #[.pointer (some ⟨g, 0, none⟩), .string s, .int .u64 (q : Nat)] w fun e w' => e = .returned (.int .i64 (begC X s q : Nat)) ∧ DdB B w' g (begX X s q) ∧ Frm [g] w w' := by
  obtain ⟨m, Y, h1, h2, h3⟩ := h.row
  refine (dbeg_any h1 (h.ok.perm h2) s q hs hq).mono fun e w' ⟨he, ht⟩ => ?_
  exact ⟨by rw [he, begC_perm h.ok.dist h2], DdB.to ht h.hg hB h3 (h.ok.beg s q hq) (begX_perm h.ok.dist h2 s q)⟩
theorem bdon_any (h : DdB B w g X) (hB : B ≤ w.heap.size) (s : ByteArray) (q pl pe : Nat) (hs : s.size ≤ 1000000) (hq : q < 18446744073709551616) (hpl : pl < 18446744073709551616) (hpe : pe < 18446744073709551616) :
    Calls Tryd.prog 10 #[.pointer (some ⟨g, 0, none⟩), .string s, .int .u64 (q : Nat), .agg #[.int .u64 (pl : Nat), .int .u64 (pe : Nat)]] w fun e w' => e = .returned (.int .i64 (donC X s q : Nat)) ∧ DdB B w' g (donX X s q pl pe) ∧ Frm [g] w w' := by
  obtain ⟨m, Y, h1, h2, h3⟩ := h.row
  refine (ddon_any h1 (h.ok.perm h2) s q pl pe hs hq hpl hpe).mono fun e w' ⟨he, ht⟩ => ?_
  exact ⟨by rw [he, donC_perm h.ok.dist h2], DdB.to ht h.hg hB h3 (h.ok.don s q pl pe hq hpl hpe) (donX_perm h.ok.dist h2 s q pl pe)⟩
theorem bfor_any (h : DdB B w g X) (hB : B ≤ w.heap.size) :
    Calls Tryd.prog 16 #[.pointer (some ⟨g, 0, none⟩)] w fun e w' => e = .returned (.tuple #[]) ∧ DdB B w' g (forX X) ∧ Frm [g] w w' := by
  obtain ⟨m, Y, h1, h2, h3⟩ := h.row
  refine (dfor_any h1 (by have := h2.length_eq; have := h.ok.few; omega)).mono fun e w' ⟨he, ht⟩ => ?_
  exact ⟨he, DdB.to ht h.hg hB h3 h.ok.forg (forX_perm h2)⟩
theorem blast_any (h : DdB B w g X) (s : ByteArray) (hs : s.size ≤ maxLen) :
    Calls Tryd.prog 20 #[.pointer (some ⟨g, 0, none⟩), .string s] w fun e w' => e = .returned (.tuple #[(lnOf X s).val, .bool (hasL X s)]) ∧ Frm [] w w' := by
  obtain ⟨m, Y, h1, h2, h3⟩ := h.row
  have e1 : lnOf X s = lnOf Y s := by unfold lnOf; rw [lookL_perm h.ok.dist h2]
  have e2 : hasL X s = hasL Y s := by unfold hasL; rw [lookL_perm h.ok.dist h2]
  rw [e1, e2]
  exact dlast_any h1 s hs (fun x hx => by have := ((h.ok.perm h2).size x hx).2; omega)
theorem ball_any (h : DdB B w g X) : Calls Tryd.prog 21 #[.pointer (some ⟨g, 0, none⟩)] w (DallEnd w (allX X)) := by
  obtain ⟨m, Y, h1, h2, h3⟩ := h.row
  rw [allX_eq h.ok.dist h2]
  exact dall_any h1 (by have := h2.length_eq; have := h.ok.few; omega) (fun x hx => by have := ((h.ok.perm h2).size x hx).2; omega)
theorem encY_few (ok : TbOk X) : (encY (keepD (allX X))).length ≤ 1500 := by
  have h1 := dencLs_few (keepD (allX X)) (fun x hx => (ok.size x ((allX_perm X).mem_iff.1 (List.mem_filter.1 hx).1)).2)
  have h2 : (keepD (allX X)).length ≤ (allX X).length := List.length_filter_le _ _
  have h3 := (allX_perm X).length_eq
  have h4 := ok.few
  unfold encY
  rw [List.length_append, be_length]
  omega
theorem encY_byte (Y : List Ln) : ∀ c ∈ encY Y, c < 256 := by
  intro c hc
  unfold encY at hc
  rcases List.mem_append.1 hc with h | h
  · exact be_lt 1 _ c h
  · obtain ⟨x, _, hx⟩ := List.mem_flatMap.1 h
    unfold encL at hx
    simp only [List.mem_append] at hx
    rcases hx with h | h | h | h | h
    · exact be_lt 4 _ c h
    · exact strL_lt _ c h
    · exact be_lt 8 _ c h
    · exact be_lt 8 _ c h
    · exact be_lt 8 _ c h
/-- The law's bytes of a table. -/
theorem bbytes_any (h : DdB B w g X) : Calls Tryd.prog 11 #[.pointer (some ⟨g, 0, none⟩)] w fun e w' => Own w w' (encY (keepD (allX X))) e := by
  obtain ⟨w1, hw1⟩ : ∃ w1, w1 = w.alloc (.cells #[.pointer none, .int .i64 0] 70) := ⟨_, rfl⟩
  have hf1 : Frm [] w w1 := by rw [hw1]; exact (Frm.refl _ _).alloc _
  have hwr : Wr w1 w.heap.size w.heap.size [w.heap.size] [] := by rw [hw1]; exact ⟨by simp, Nat.le_refl _, .inl ⟨rfl, rfl, Whole.made _ _ _⟩⟩
  obtain ⟨m, Y, h1, h2, h3⟩ := h.row
  have hwt := dwrite_any hwr (h1.keep hf1 (by simp) (by simp)) (h.ok.perm h2) (by simp)
  rw [← allX_eq h.ok.dist h2] at hwt
  have hfew := encY_few h.ok
  obtain ⟨b, hb⟩ : ∃ b, b = encY (keepD (allX X)) := ⟨_, rfl⟩
  rw [← hb] at hwt hfew ⊢
  have HWT := Lib.hid hwt
  have HF1 := Lib.hid hf1
  have HB := Lib.hid hfew
  clear hwt hf1 hfew hb h1 h2 h3 h hwr
  go_enter Tryd.func11, Tryd.ntmps11
  go_wp2_with fail
  rw [← hw1]
  have HW1 := Lib.hid hw1
  clear hw1
  (with_reducible refine HWT.out.mono ?_)
  rintro e w2 ⟨rfl, F', hw2, hf2, _⟩
  have HF2 : Hid (Frm [] w w2) := Lib.hid (HF1.out.trans hf2 (by simp) (fun x hx => by simp at hx; subst hx; exact .inr (Nat.le_refl _)))
  rw [List.nil_append] at hw2
  have HDN := Lib.hid (done_any hw2 (by have := HB.out; omega))
  clear hw2 hf2
  go_wp2_with fail
  (with_reducible refine HDN.out.mono ?_)
  rintro e w3 ⟨a, c, rfl, ho, hf3⟩
  have HE : Hid (Own w w3 b (.returned (.slice a b.length c))) := Lib.hid ⟨a, c, rfl, own_low ho HF2.out.size, HF2.out.trans hf3 (by simp) (by simp)⟩
  clear ho hf3
  go_wp2
  go_ret
  exact HE.out
end
/-- "a". -/
def sA : ByteArray := ⟨#[97]⟩
set_option maxHeartbeats 4000000 in
theorem awake15_any (w : World) : Calls Tryd.prog 6 #[] w fun e w' => e = .returned (.bool true) ∧ Frm [] w w' := by
  have hfr : ∀ z z' : World, Frm [] w z → Frm [w.heap.size] z z' → Frm [] w z' := fun z z' h1 h2 => h1.trans h2 (by simp) (fun x hx => by simp at hx; subst hx; exact .inr (Nat.le_refl _))
  have HFR := Lib.hid hfr
  have HNEW := Lib.hid (DdB.new w)
  have HF1 : Hid (Frm [] w (w.alloc (.cells #[.map none] 64))) := Lib.hid ((Frm.refl _ _).alloc _)
  obtain ⟨w1, hw1⟩ : ∃ w1, w1 = w.alloc (.cells #[.map none] 64) := ⟨_, rfl⟩
  rw [← hw1] at HNEW HF1
  have HB1 : Hid (∀ z, Frm [] w z → w.heap.size ≤ z.heap.size) := Lib.hid (fun z hz => hz.size)
  have C1 := Lib.hid (bbeg_any HNEW.out (HB1.out _ HF1.out) sA 3 (by decide) (by decide))
  have HW1 := Lib.hid hw1
  clear hfr hw1
  go_enter Tryd.func6, Tryd.ntmps6
  go_wp2_with ((with_reducible refine (dnew_any _).mono ?_); rintro e w' ⟨rfl, rfl⟩)
  rw [← HW1.out]
  refine C1.out.mono ?_
  rintro e w2 ⟨rfl, hd2, hf2⟩
  have F2 := Lib.hid (HFR.out _ _ HF1.out hf2)
  have C2 := Lib.hid (bbeg_any hd2 (HB1.out _ F2.out) sA 3 (by decide) (by decide))
  clear hd2 hf2 C1
  go_wp2_with fail
  refine C2.out.mono ?_
  rintro e w3 ⟨rfl, hd3, hf3⟩
  have F3 := Lib.hid (HFR.out _ _ F2.out hf3)
  have C3 := Lib.hid (bdon_any hd3 (HB1.out _ F3.out) sA 3 1 0 (by decide) (by decide) (by decide) (by decide))
  clear hd3 hf3 C2
  go_wp2_with fail
  refine C3.out.mono ?_
  rintro e w4 ⟨rfl, hd4, hf4⟩
  have F4 := Lib.hid (HFR.out _ _ F3.out hf4)
  have C4 := Lib.hid (bbeg_any hd4 (HB1.out _ F4.out) sA 2 (by decide) (by decide))
  clear hd4 hf4 C3
  go_wp2_with fail
  refine C4.out.mono ?_
  rintro e w5 ⟨rfl, hd5, hf5⟩
  have F5 := Lib.hid (HFR.out _ _ F4.out hf5)
  have C5 := Lib.hid (bbeg_any hd5 (HB1.out _ F5.out) sA 5 (by decide) (by decide))
  clear hd5 hf5 C4
  go_wp2_with fail
  refine C5.out.mono ?_
  rintro e w6 ⟨rfl, hd6, hf6⟩
  have F6 := Lib.hid (HFR.out _ _ F5.out hf6)
  have C6 := Lib.hid (bfor_any hd6 (HB1.out _ F6.out))
  clear hd6 hf6 C5
  go_wp2_with fail
  refine C6.out.mono ?_
  rintro e w7 ⟨rfl, hd7, hf7⟩
  have F7 := Lib.hid (HFR.out _ _ F6.out hf7)
  have hl := blast_any hd7 sA (by unfold maxLen; decide)
  have e1 : lnOf (forX (begX (begX (donX (begX (begX [] sA 3) sA 3) sA 3 1 0) sA 2) sA 5)) sA = ⟨sA, 3, 3, 1, 0⟩ := by decide
  have e2 : hasL (forX (begX (begX (donX (begX (begX [] sA 3) sA 3) sA 3 1 0) sA 2) sA 5)) sA = true := by decide
  rw [e1, e2] at hl
  have C7 := Lib.hid hl
  clear hd7 hf7 C6 hl e1 e2
  have k1 : begC [] sA 3 = 0 := by decide
  have k2 : begC (begX [] sA 3) sA 3 = 41 := by decide
  have k3 : donC (begX (begX [] sA 3) sA 3) sA 3 = 0 := by decide
  have k4 : begC (donX (begX (begX [] sA 3) sA 3) sA 3 1 0) sA 2 = 40 := by decide
  have k5 : begC (begX (donX (begX (begX [] sA 3) sA 3) sA 3 1 0) sA 2) sA 5 = 0 := by decide
  simp only [k1, k2, k3, k4, k5]
  clear k1 k2 k3 k4 k5
  go_wp2_with fail
  refine C7.out.mono ?_
  rintro e w8 ⟨rfl, hf8⟩
  have F8 : Hid (Frm [] w w8) := Lib.hid (F7.out.trans hf8 (by simp) (by simp))
  clear hf8 C7
  simp only [Ln.val]
  go_wp2
  go_ret
  exact ⟨rfl, F8.out.alloc _⟩
end Go.Proofs.YtahhkffghhgojaaDoor
