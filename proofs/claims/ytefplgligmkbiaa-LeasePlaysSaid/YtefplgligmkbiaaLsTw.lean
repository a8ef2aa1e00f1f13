/- Both books, the program's and the document's, through the calls. -/
import Derived.Test.YtefplgligmkbiaaLsLv
import Derived.Test.YtefplgligmkbiaaRbOpen
import Derived.Test.YtefplgligmkbiaaRbRenew
import Derived.Test.YtefplgligmkbiaaRbExpire
import Derived.Test.YtefplgligmkbiaaRbOf
import Derived.Test.YtefplgligmkbiaaRbSame
namespace Go.Proofs.Ytefplgligmkbiaa
open Go.RowKit

/-- The program's book at p, the document's at r; from x on only these two were turned. -/
def Tw (w x z : World) (p r lA : Nat) (XA : List Sn) (lB : Nat) (XB : List Sn) : Prop := Lv w z p lA XA ∧ (∃ a c, Rb z w.heap.size r [p] a c lB XB) ∧ Frm [p, r] x z
section
variable {w x z z' : World} {p r lA lB lA' lB' : Nat} {XA XB XA' XB' : List Sn}
theorem Tw.ne (h : Tw w x z p r lA XA lB XB) : ¬ r = p := by
  obtain ⟨_, ⟨a, c, hr⟩, _⟩ := h
  have := hr.out
  simpa using this
theorem Tw.lts (h : Tw w x z p r lA XA lB XB) : p < z.heap.size ∧ r < z.heap.size := by
  obtain ⟨⟨⟨Y, hb⟩, _⟩, ⟨a, c, hr⟩, _⟩ := h
  exact ⟨hb.book.lt, hr.book.lt⟩
theorem Tw.frm (h : Tw w x z p r lA XA lB XB) : Frm [] w z := h.1.2
theorem Tw.here (h : Tw w x z p r lA XA lB XB) : Tw w z z p r lA XA lB XB := ⟨h.1, h.2.1, Frm.refl _ _⟩
theorem Tw.keep (h : Tw w x z p r lA XA lB XB) (hf : Frm [] z z') : Tw w x z' p r lA XA lB XB := by
  obtain ⟨h1, ⟨a, c, hr⟩, h3⟩ := h
  exact ⟨h1.keep hf (by simp) (by simp), ⟨a, c, hr.keep hf (by simp) (by simp)⟩, h3.trans hf (fun x hx => hx) (by simp)⟩
theorem Tw.stepP (h : Tw w x z p r lA XA lB XB) (hl : Lv w z' p lA' XA') (hf : Frm [p] z z') : Tw w x z' p r lA' XA' lB XB := by
  have hne := h.ne
  obtain ⟨h1, ⟨a, c, hr⟩, h3⟩ := h
  exact ⟨hl, ⟨a, c, hr.keep hf (by simpa using hne) (fun x hx => .inl (by simp at hx; simp [hx]))⟩, h3.trans hf (fun x hx => hx) (fun x hx => .inl (by simp at hx; simp [hx]))⟩
theorem Tw.stepR (h : Tw w x z p r lA XA lB XB) (hr : ∃ a c, Rb z' w.heap.size r [p] a c lB' XB' ∧ Frm [r] z z') : Tw w x z' p r lA XA lB' XB' := by
  have hne := h.ne
  obtain ⟨h1, _, h3⟩ := h
  obtain ⟨a, c, hr, hf⟩ := hr
  exact ⟨h1.keep hf (by simp; exact fun e => hne e.symm) (by simp; exact hr.hp), ⟨a, c, hr⟩, h3.trans hf (fun x hx => hx) (fun x hx => .inl (by simp at hx; simp [hx]))⟩
theorem Tw.pF (h : Tw w x z p r lA XA lB XB) : ∀ y ∈ [p], y < z.heap.size := fun y hy => by simp at hy; subst hy; exact h.lts.1
theorem tw_openP (now life : Nat) (h : Tw w x z p r lA XA lB XB) (hnow : now < 18446744073709551616) :
    Calls Try.prog 11 #[.pointer (some ⟨p, 0, none⟩), .int .u64 (now : Nat), .int .u64 (life : Nat)] z fun e z' => e = .returned (.tuple #[.int .u64 (openR lA XA.length life : Nat), .int .i64 (openC lA XA.length life : Nat)]) ∧ Tw w x z' p r (openT lA XA.length life) (openS XA lA now life) lB XB := by
  refine (lv_open now life h.1 hnow).mono ?_
  rintro e z' ⟨he, hl, hf⟩
  exact ⟨he, h.stepP hl hf⟩
theorem tw_openR (now life : Nat) (h : Tw w x z p r lA XA lB XB) (hnow : now < 18446744073709551616) (hlf : life < 18446744073709551616) :
    Calls Try.prog 12 #[.pointer (some ⟨r, 0, none⟩), .int .u64 (now : Nat), .int .u64 (life : Nat)] z fun e z' => e = .returned (.tuple #[.int .u64 (openR lB XB.length life : Nat), .int .i64 (openC lB XB.length life : Nat)]) ∧ Tw w x z' p r lA XA (openT lB XB.length life) (openS XB lB now life) := by
  obtain ⟨a, c, hr⟩ := h.2.1
  refine (ropen_any now life hr h.pF hnow hlf).mono ?_
  rintro e z' ⟨he, hb⟩
  exact ⟨he, h.stepR hb⟩
theorem tw_renewP (id now : Nat) (h : Tw w x z p r lA XA lB XB) (hnow : now < 18446744073709551616) :
    Calls Try.prog 13 #[.pointer (some ⟨p, 0, none⟩), .int .u64 (id : Nat), .int .u64 (now : Nat)] z fun e z' => e = .returned (.int .i64 (renewC XA id now : Nat)) ∧ Tw w x z' p r lA (renewL XA id now) lB XB := by
  refine (lv_renew id now h.1 hnow).mono ?_
  rintro e z' ⟨he, hl, hf⟩
  exact ⟨he, h.stepP hl hf⟩
theorem tw_renewR (id now : Nat) (h : Tw w x z p r lA XA lB XB) (hnow : now < 18446744073709551616) :
    Calls Try.prog 14 #[.pointer (some ⟨r, 0, none⟩), .int .u64 (id : Nat), .int .u64 (now : Nat)] z fun e z' => e = .returned (.int .i64 (renewC XB id now : Nat)) ∧ Tw w x z' p r lA XA lB (renewL XB id now) := by
  obtain ⟨a, c, hr⟩ := h.2.1
  refine (rrenew_any id now hr h.pF hnow).mono ?_
  rintro e z' ⟨he, hb⟩
  exact ⟨he, h.stepR hb⟩
theorem tw_closeP (id : Nat) (h : Tw w x z p r lA XA lB XB) :
    Calls Try.prog 15 #[.pointer (some ⟨p, 0, none⟩), .int .u64 (id : Nat)] z fun e z' => e = .returned (.int .i64 (closeC XA id : Nat)) ∧ Tw w x z' p r lA (closeL XA id) lB XB := by
  refine (lv_close id h.1).mono ?_
  rintro e z' ⟨he, hl, hf⟩
  exact ⟨he, h.stepP hl hf⟩
theorem tw_closeR (id : Nat) (h : Tw w x z p r lA XA lB XB) :
    Calls Try.prog 16 #[.pointer (some ⟨r, 0, none⟩), .int .u64 (id : Nat)] z fun e z' => e = .returned (.int .i64 (closeC XB id : Nat)) ∧ Tw w x z' p r lA XA lB (closeL XB id) := by
  obtain ⟨a, c, hr⟩ := h.2.1
  refine (rclose_any id hr h.pF).mono ?_
  rintro e z' ⟨he, hb⟩
  exact ⟨he, h.stepR hb⟩
theorem tw_expireP (now gn : Nat) (h : Tw w x z p r lA XA lB XB) (hgn : gn = (goneS now XA).length) :
    Calls Try.prog 18 #[.pointer (some ⟨p, 0, none⟩), .int .u64 (now : Nat)] z fun e z' => ∃ ga gc, e = .returned (.slice ga gn gc) ∧ (∀ q, ga = some q → z.heap.size ≤ q.block) ∧ ValsAt z' ga (uvs (goneS now XA)) ∧ Tw w x z' p r lA (leftS now XA) lB XB ∧ Frm [p] z z' := by
  obtain ⟨Y, hb⟩ := h.1.1
  refine (expire_any now hb).mono ?_
  rintro e z' ⟨ga, gc, he, hg, hv, hb'⟩
  obtain ⟨h1, h2⟩ := h.1.to hb'
  exact ⟨ga, gc, by rw [hgn]; exact he, hg, hv, h.stepP h1 h2, h2⟩
theorem tw_expireR (now gn : Nat) (h : Tw w x z p r lA XA lB XB) (hgn : gn = (goneS now XB).length) :
    Calls Try.prog 19 #[.pointer (some ⟨r, 0, none⟩), .int .u64 (now : Nat)] z fun e z' => ∃ ga gc, e = .returned (.slice ga gn gc) ∧ (∀ q, ga = some q → z.heap.size ≤ q.block) ∧ ValsAt z' ga (uvs (goneS now XB)) ∧ Tw w x z' p r lA XA lB (leftS now XB) ∧ Frm [r] z z' := by
  obtain ⟨a, c, hr⟩ := h.2.1
  refine (rexpire_any now hr h.pF).mono ?_
  rintro e z' ⟨ga, gc, he, hg, hv, a', c', hr', hf'⟩
  exact ⟨ga, gc, by rw [hgn]; exact he, hg, hv, h.stepR ⟨a', c', hr', hf'⟩, hf'⟩
theorem tw_liveP (id now : Nat) (h : Tw w x z p r lA XA lB XB) :
    Calls Try.prog 21 #[.pointer (some ⟨p, 0, none⟩), .int .u64 (id : Nat), .int .u64 (now : Nat)] z fun e z' => e = .returned (.bool (liveS XA id now)) ∧ Frm [] z z' := by
  refine (lv_live id now h.1).mono ?_
  rintro e z' ⟨he, _, hf⟩
  exact ⟨he, hf⟩
theorem tw_liveR (id now : Nat) (h : Tw w x z p r lA XA lB XB) :
    Calls Try.prog 22 #[.pointer (some ⟨r, 0, none⟩), .int .u64 (id : Nat), .int .u64 (now : Nat)] z fun e z' => e = .returned (.bool (liveS XB id now)) ∧ z = z' := by
  obtain ⟨a, c, hr⟩ := h.2.1
  exact rblive_any id now hr
end

set_option maxRecDepth 100000 in
set_option maxHeartbeats 2000000 in
theorem shows_any {w x z : World} {p r last : Nat} {X : List Sn} (h : Tw w x z p r last X last X) :
    Calls Try.prog 20 #[.pointer (some ⟨p, 0, none⟩), .pointer (some ⟨r, 0, none⟩)] z fun e z' => e = .returned (.bool true) ∧ Frm [] z z' := by
  obtain ⟨n, hn⟩ : ∃ n, n = X.length := ⟨_, rfl⟩
  have HAL := Lib.hid (lv_all h.1 hn)
  have hn16 : n ≤ 16 := by rw [hn]; exact h.1.few
  obtain ⟨a, c, hr⟩ := h.2.1
  have HR := Lib.hid hr
  have HN := Lib.hid hn
  clear h hr hn
  go_enter Try.func20, Try.ntmps20
  go_wp2_with fail
  (with_reducible refine HAL.out.mono ?_)
  rintro e z1 ⟨a2, c2, rfl, hsl, _, hf1⟩
  have hr1 := HR.out.keep hf1 (by simp) (by simp)
  have d0 := hr1.book.cell 0
  have d1 := hr1.book.cell 1
  rw [← HN.out] at d1
  simp at d0 d1
  have hrs : SL z1 [] a X := hr1.row.sl.keep (S := []) (F' := []) (Frm.refl _ _) (by simp) (by simp)
  have HSA := Lib.hid (same_any (cap := c2) (cap' := c) hsl hrs (n := n) HN.out (by omega))
  have HF1 := Lib.hid hf1
  clear hsl hf1 hr1 hrs HAL
  have hle : ((last : Int) == (last : Int)) = true := by simp
  go_wp2_with fail
  (with_reducible refine HSA.out.mono ?_)
  rintro e z2 ⟨rfl, hf2⟩
  have HF2 := Lib.hid (HF1.out.trans hf2 (U := []) (by simp) (by simp))
  clear hf2
  go_wp2
  go_ret
  exact ⟨rfl, HF2.out⟩
end Go.Proofs.Ytefplgligmkbiaa
