/- Contract of with: the entries with one more. -/
import Derived.Test.YtecfoomjpjcldaaMdTrie
namespace Go.Proofs.Ytecfoomjpjcldaa
open Go.RowKit
set_option maxRecDepth 100000

def WithEnd (w : World) (F : List Nat) (t : Tn) (e : Ending) (w' : World) : Prop := ∃ v', e = .returned v' ∧ Frm [] w w' ∧ TnAt w' F v' t
set_option maxHeartbeats 4000000 in
theorem mwith_any {t : Tn} (k : Nat) (d : List Nat) (a : Option Addr) (c : Nat) (_hk : k < 18446744073709551616) : ∀ {w : World} {F : List Nat} {v : Value} (b : Nat), TnAt w F v t → IxOk w F ⟨(k, d), a, c⟩ → b < 18446744073709551616 → (∀ x ∈ F, x < w.heap.size) →
    Calls Try.prog 59 #[v, .int .u64 (k : Nat), .slice a d.length c, .int .u64 (b : Nat)] w (WithEnd w F (withT t k d b)) := by
  induction t with
  | nil =>
    intro w F v b ht hi hb hF
    have hv : v = .pointer none := ht
    subst hv
    have HI := Lib.hid hi
    have HF := Lib.hid hF
    obtain ⟨Q, hQ⟩ : ∃ Q, Q = WithEnd w F (withT .nil k d b) := ⟨_, rfl⟩
    rw [← hQ]
    have HQ := Lib.hid hQ
    clear ht hi hF hQ
    go_enter Try.func59, Try.ntmps59
    go_wp2
    rw [HQ.out]
    have hf1 : Frm [] w (w.alloc (.cells #[.int .u64 (k : Nat), .slice a d.length c, .pointer none, .pointer none] 133)) := (Frm.refl _ _).alloc _
    exact ⟨_, rfl, hf1, w.heap.size, a, c, .pointer none, .pointer none, rfl, Whole.made _ _ _, fun hm => by have := HF.out _ hm; omega, HI.out.keep hf1 (by simp) (fun x hx => .inl hx), rfl, rfl⟩
  | nd e y l r ihl ihr =>
    intro w F v b ht hi hb hF
    obtain ⟨g, a', c', x1, x2, rfl, hw, hg, hi', hl, hr⟩ := ht
    obtain ⟨p1, rfl⟩ := hl.ptr
    obtain ⟨p2, rfl⟩ := hr.ptr
    have n0 := hw.cell 0
    have n1 := hw.cell 1
    have n2 := hw.cell 2
    have n3 := hw.cell 3
    simp at n0 n1 n2 n3
    obtain ⟨hw1, hf1⟩ : Whole (w.alloc (.cells #[.int .u64 (e : Nat), .slice a' y.length c', .pointer p1, .pointer p2] 133)) w.heap.size 133 #[.int .u64 (e : Nat), .slice a' y.length c', .pointer p1, .pointer p2] ∧ Frm [] w (w.alloc (.cells #[.int .u64 (e : Nat), .slice a' y.length c', .pointer p1, .pointer p2] 133)) := ⟨Whole.made _ _ _, (Frm.refl _ _).alloc _⟩
    rcases Nat.mod_two_eq_zero_or_one b with hb2 | hb2
    · have hbit : bits BinOp.and IntKind.u64 (b : Int) 1 = ((0 : Nat) : Int) := by
        first | (rw [show (1 : Int) = ((1 : Nat) : Int) from rfl, u64_and_nat b 1 hb (by decide), nat_mask1, hb2]; done) | (rw [show (1 : Int) = ((1 : Nat) : Int) from rfl, u64_and_nat b 1 hb (by decide), nat_mask1, hb2]; rfl)
      have m2 := ((hf1.whole hw (by simp)).cell 2)
      simp at m2
      have HIH := Lib.hid (ihl (b / 2) (hl.keep hf1 (F' := w.heap.size :: F) (by simp) (fun x hx => by simp at hx; rcases hx with h | h; exact .inr (by omega); exact .inl h)) (hi.keep hf1 (by simp) (fun x hx => by simp at hx; rcases hx with h | h; exact .inr (by omega); exact .inl h)) (by omega) (fun x hx => by simp at hx; rw [World.size_alloc]; rcases hx with h | h; omega; have := hF x h; omega))
      have HO := Lib.hid (hr.keep hf1 (F' := w.heap.size :: F) (by simp) (fun x hx => by simp at hx; rcases hx with h | h; exact .inr (by omega); exact .inl h))
      have HI := Lib.hid (hi'.keep hf1 (F' := w.heap.size :: F) (by simp) (fun x hx => by simp at hx; rcases hx with h | h; exact .inr (by omega); exact .inl h))
      have HF := Lib.hid hF
      have HW := Lib.hid hw1
      have HF1 := Lib.hid hf1
      have HB2 := Lib.hid hb2
      clear hw hg hi hi' hl hr hF hw1 hf1 hb2 ihl ihr
      go_enter Try.func59, Try.ntmps59
      rw [show ((b / 2 : Nat) : Int) = (b : Int) / 2 by omega] at HIH
      go_wp2_with fail
      (with_reducible refine (HIH.out).mono ?_)
      rintro ex w2 ⟨v', rfl, hf2, ht2⟩
      obtain ⟨p', rfl⟩ := ht2.ptr
      have hw2 := hf2.whole HW.out (by simp)
      have y0 := hw2.cell 2
      have z0 := hw2.free 2
      simp at y0
      have HW2 := Lib.hid hw2
      have HF2 := Lib.hid hf2
      have HT2 := Lib.hid ht2
      clear hf2 ht2 hw2 m2 HIH
      go_wp2
      go_ret
      have hf3 : Frm [w.heap.size] w2 (w2.setCell ⟨w.heap.size, 2, none⟩ (.pointer p')) := (Frm.refl _ _).setCell (.inl (by simp)) _
      have hk := HW2.out.put 2 (.pointer p')
      have hall := HF1.out.trans (HF2.out.trans hf3 (U := [w.heap.size]) (by simp) (fun x hx => .inl hx)) (U := []) (by simp) (fun x hx => by simp at hx; exact .inr (by omega))
      have hS : ∀ x ∈ [w.heap.size], x ∈ w.heap.size :: F ∨ w2.heap.size ≤ x := fun x hx => by simp at hx; simp [hx]
      have hS' : ∀ x ∈ F, x ∈ w.heap.size :: F ∨ w2.heap.size ≤ x := fun x hx => by simp [hx]
      refine ⟨_, rfl, hall, ?_⟩
      unfold withT
      rw [if_pos HB2.out]
      exact ⟨w.heap.size, a', c', _, _, rfl, hk, fun hm => by have := HF.out _ hm; omega, (HI.out.keep HF2.out (F' := w.heap.size :: F) (by simp) (fun x hx => .inl hx)).keep hf3 hS hS', HT2.out.keep hf3 hS hS', (HO.out.keep HF2.out (F' := w.heap.size :: F) (by simp) (fun x hx => .inl hx)).keep hf3 hS hS'⟩
    · have hbit : bits BinOp.and IntKind.u64 (b : Int) 1 = ((1 : Nat) : Int) := by
        first | (rw [show (1 : Int) = ((1 : Nat) : Int) from rfl, u64_and_nat b 1 hb (by decide), nat_mask1, hb2]; done) | (rw [show (1 : Int) = ((1 : Nat) : Int) from rfl, u64_and_nat b 1 hb (by decide), nat_mask1, hb2]; rfl)
      have m3 := ((hf1.whole hw (by simp)).cell 3)
      simp at m3
      have HIH := Lib.hid (ihr (b / 2) (hr.keep hf1 (F' := w.heap.size :: F) (by simp) (fun x hx => by simp at hx; rcases hx with h | h; exact .inr (by omega); exact .inl h)) (hi.keep hf1 (by simp) (fun x hx => by simp at hx; rcases hx with h | h; exact .inr (by omega); exact .inl h)) (by omega) (fun x hx => by simp at hx; rw [World.size_alloc]; rcases hx with h | h; omega; have := hF x h; omega))
      have HO := Lib.hid (hl.keep hf1 (F' := w.heap.size :: F) (by simp) (fun x hx => by simp at hx; rcases hx with h | h; exact .inr (by omega); exact .inl h))
      have HI := Lib.hid (hi'.keep hf1 (F' := w.heap.size :: F) (by simp) (fun x hx => by simp at hx; rcases hx with h | h; exact .inr (by omega); exact .inl h))
      have HF := Lib.hid hF
      have HW := Lib.hid hw1
      have HF1 := Lib.hid hf1
      have HB2 := Lib.hid hb2
      clear hw hg hi hi' hl hr hF hw1 hf1 hb2 ihl ihr
      go_enter Try.func59, Try.ntmps59
      rw [show ((b / 2 : Nat) : Int) = (b : Int) / 2 by omega] at HIH
      go_wp2_with fail
      (with_reducible refine (HIH.out).mono ?_)
      rintro ex w2 ⟨v', rfl, hf2, ht2⟩
      obtain ⟨p', rfl⟩ := ht2.ptr
      have hw2 := hf2.whole HW.out (by simp)
      have y0 := hw2.cell 3
      have z0 := hw2.free 3
      simp at y0
      have HW2 := Lib.hid hw2
      have HF2 := Lib.hid hf2
      have HT2 := Lib.hid ht2
      clear hf2 ht2 hw2 m3 HIH
      go_wp2
      go_ret
      have hf3 : Frm [w.heap.size] w2 (w2.setCell ⟨w.heap.size, 3, none⟩ (.pointer p')) := (Frm.refl _ _).setCell (.inl (by simp)) _
      have hk := HW2.out.put 3 (.pointer p')
      have hall := HF1.out.trans (HF2.out.trans hf3 (U := [w.heap.size]) (by simp) (fun x hx => .inl hx)) (U := []) (by simp) (fun x hx => by simp at hx; exact .inr (by omega))
      have hS : ∀ x ∈ [w.heap.size], x ∈ w.heap.size :: F ∨ w2.heap.size ≤ x := fun x hx => by simp at hx; simp [hx]
      have hS' : ∀ x ∈ F, x ∈ w.heap.size :: F ∨ w2.heap.size ≤ x := fun x hx => by simp [hx]
      refine ⟨_, rfl, hall, ?_⟩
      unfold withT
      rw [if_neg (by have := HB2.out; omega)]
      exact ⟨w.heap.size, a', c', _, _, rfl, hk, fun hm => by have := HF.out _ hm; omega, (HI.out.keep HF2.out (F' := w.heap.size :: F) (by simp) (fun x hx => .inl hx)).keep hf3 hS hS', (HO.out.keep HF2.out (F' := w.heap.size :: F) (by simp) (fun x hx => .inl hx)).keep hf3 hS hS', HT2.out.keep hf3 hS hS'⟩
end Go.Proofs.Ytecfoomjpjcldaa
