/- Contract of the document's Renew. -/
import Derived.Test.YtefplgligmkbiaaRbOps
namespace Go.Proofs.Ytefplgligmkbiaa
open Go.RowKit

theorem SOwn.ends {w : World} {base cap g q : Nat} {e : TypeId} {F : List Nat} {X : List Sn} (h : SOwn w base e F (some ⟨g, 0, none⟩) cap X) (hq : q < X.length) (v : Nat) (hv : v < 18446744073709551616) :
    SOwn (w.setCell ⟨g, q * 3 + 1, none⟩ (.int .u64 (v : Nat))) base e F (some ⟨g, 0, none⟩) cap (X.set q { X.getD q default with ends := v }) := by
  have h0 := (h.own.stored (q * 3 + 1) (.int .u64 (v : Nat))).1
  rw [snc_ends X q v hq] at h0
  refine ⟨by rw [List.length_set]; exact h0, fun y hy => ?_, h.away⟩
  rcases List.mem_or_eq_of_mem_set hy with h1 | h1
  · exact h.fits y h1
  · subst h1
    have h2 := h.fits (X.getD q default) (by rw [getS hq]; exact List.getElem_mem hq)
    exact ⟨h2.1, hv, h2.2.2⟩
theorem SOwn.free {w : World} {base cap g : Nat} {e : TypeId} {F : List Nat} {X : List Sn} (h : SOwn w base e F (some ⟨g, 0, none⟩) cap X) (j : Nat) : w.frozen? ⟨g, j, none⟩ = false := by
  rcases h.own.2 with ⟨h', _⟩ | ⟨g', cap', cur, h', hb, hg, _⟩
  · simp at h'
  · simp only [Value.slice.injEq, Option.some.injEq, Addr.mk.injEq, and_true, true_and] at h'
    obtain ⟨rfl, rfl⟩ := h'
    exact frozen_of_row w _ _ cur e hg
theorem SOwn.shape {w : World} {base cap : Nat} {e : TypeId} {F : List Nat} {a : Option Addr} {X : List Sn} (h : SOwn w base e F a cap X) (hX : 0 < X.length) : ∃ g, a = some ⟨g, 0, none⟩ ∧ base ≤ g := by
  rcases h.own.2 with ⟨_, h'⟩ | ⟨g', cap', cur, h', hb, hg, _⟩
  · omega
  · simp only [Value.slice.injEq] at h'
    exact ⟨g', h'.1, hb⟩

set_option maxRecDepth 100000 in
set_option maxHeartbeats 4000000 in
theorem rrenew_any {w : World} {B p : Nat} {F : List Nat} {a : Option Addr} {cap last : Nat} {X : List Sn} (id now : Nat) (h : Rb w B p F a cap last X) (hF : ∀ x ∈ F, x < w.heap.size) (hnow : now < 18446744073709551616) :
    Calls Try.prog 14 #[.pointer (some ⟨p, 0, none⟩), .int .u64 (id : Nat), .int .u64 (now : Nat)] w (RbEnd w B p F last (renewL X id now) (.int .i64 (renewC X id now : Nat))) := by
  have hR := rbat_any id h
  have c1 := h.book.cell 1
  simp at c1
  have HSAME : Hid (∃ a' c', Rb w B p F a' c' last X ∧ Frm [p] w w) := Lib.hid ⟨a, cap, h, Frm.refl _ _⟩
  by_cases hin : atS X id < X.length
  · have hat : atSI X id = ((atS X id : Nat) : Int) := by unfold atSI; rw [if_pos hin]
    rw [hat] at hR
    have HR := Lib.hid hR; clear hR
    obtain ⟨b, off, rfl, q0, q1, q2, hxf⟩ := h.row.sl.at hin
    obtain ⟨x, hx⟩ : ∃ x, x = X.getD (atS X id) default := ⟨_, rfl⟩
    rw [← hx] at q0 q1 q2 hxf
    by_cases hover : x.ends ≤ now
    · have hc : renewC X id now = 15 := by unfold renewC; rw [if_pos hin, ← hx, if_pos hover]
      have hX : renewL X id now = X := by unfold renewL; rw [hc]; rfl
      rw [hc, hX]
      obtain ⟨q, hq⟩ : ∃ q, q = atS X id := ⟨_, rfl⟩
      obtain ⟨n, hnn⟩ : ∃ n, n = X.length := ⟨_, rfl⟩
      have hn16 := h.few
      rw [← hq] at hin q0 q1 q2 HR
      rw [← hnn] at hin c1 hn16
      clear h hx hc hX hq hnn hat
      go_enter Try.func14, Try.ntmps14
      go_wp2_with ((with_reducible refine HR.out.mono ?_); rintro e w' ⟨rfl, rfl⟩)
      go_ret
      exact ⟨rfl, HSAME.out⟩
    · have hc : renewC X id now = 0 := by unfold renewC; rw [if_pos hin, ← hx, if_neg hover]
      have hX : renewL X id now = renewS X (atS X id) now := by unfold renewL; rw [hc]; rfl
      rw [hc, hX]
      unfold renewS
      rw [← hx]
      obtain ⟨i0, hi, hz0, hz1, hz2⟩ := info_parts Try.info56
      have HI := Lib.hid hi; clear hi
      have HZ0 := Lib.hid hz0; clear hz0
      have HZ1 := Lib.hid hz1; clear hz1
      have HZ2 := Lib.hid hz2; clear hz2
      have HSU := Lib.hid (fun w => sum_any (w := w) now x.life hnow hxf.2.2)
      obtain ⟨s, hs⟩ : ∃ s, s = sumN now x.life := ⟨_, rfl⟩
      have hs64 : s < 18446744073709551616 := by rw [hs]; exact sumN_lt _ _
      rw [← hs] at HSU ⊢
      obtain ⟨q, hq⟩ : ∃ q, q = atS X id := ⟨_, rfl⟩
      obtain ⟨n, hnn⟩ : ∃ n, n = X.length := ⟨_, rfl⟩
      have hn16 : n ≤ 16 := by have := h.few; omega
      have hqn : q < n := by rw [hq, hnn]; exact hin
      rw [← hq] at q0 q1 q2 HR hx ⊢
      rw [← hnn] at c1
      have HH := Lib.hid h
      have HN := Lib.hid hnn
      have HX := Lib.hid hx
      have hpF : ∀ x ∈ p :: F, x < w.heap.size := fun x hx => by
        rcases List.mem_cons.1 hx with rfl | h1
        · exact HH.out.book.lt
        · exact hF x h1
      have HPF := Lib.hid hpF
      have VX := Lib.hid (fun (z : World) (hz : Frm [] w z) => (h.row.sl.keep (F' := p :: F) hz (by simp) (fun x h => .inl h)).vals)
      have HLX : Hid ((snc X).length = n * 3) := Lib.hid (by rw [snc_length, hnn])
      have HLIT : Hid (SOwn (w.alloc (.cells #[] 56)) w.heap.size 56 (p :: F) (some ⟨w.heap.size, 0, none⟩) 0 []) := Lib.hid ⟨World.ownsRow_lit w #[] 0 (Nat.le_refl _) (by unfold maxLen; omega) rfl, by simp, fun g hg hm => by simp at hg; subst hg; have h1 := hpF _ hm; omega⟩
      have hfit1 : 0 + n ≤ 1000000000 := by omega
      have hsame : ¬ x.ends < s → ({ x with ends := max x.ends s } : Sn) = x := fun h1 => by rw [Nat.max_eq_left (by omega)]
      have HSM := Lib.hid hsame
      have cA := ((((Frm.refl [] w).alloc (.cells #[] 56)).whole HH.out.book (by simp))).cell 1
      rw [← HN.out] at cA
      simp at cA
      clear h hin hx hc hX hq hnn hat hpF hs hF hsame
      go_enter Try.func14, Try.ntmps14
      go_wp2_with fail
      (with_reducible refine HR.out.mono ?_)
      rintro e w' ⟨rfl, rfl⟩
      go_wp2_with (at_builtin; refine wpList_appS (by rfl) (.tmp 25) (.tmp 29) 23 rfl w.heap.size 56 i0 (.agg #[.int .u64 0, .int .u64 0, .int .u64 0]) 3 24 Try.underlying23 HI.out HZ0.out rfl (by decide) HZ1.out HZ2.out (by decide) (.slice (some ⟨w.heap.size, 0, none⟩) 0 0) 0 _ rfl HLIT.out.own _ n cap _ rfl (VX.out _ ((Frm.refl [] w).alloc _)) HLX.out (snc_one _) (fun h => by cases h) hfit1 (by simp) ?_)
      intro a3 c3 w3 happ
      have g3 := HLIT.out.app (X := []) rfl HH.out.row.fits HN.out (fun x hx => Nat.lt_of_lt_of_le (HPF.out x hx) (by simp)) happ
      have hf3 : Frm [] w w3 := frm_lit3 (Frm.refl _ _) happ
      have ho3 := g3.1
      rw [List.nil_append] at ho3
      obtain ⟨g, rfl, hg⟩ := ho3.shape (by rw [← HN.out]; omega)
      obtain ⟨b', off', he, r0, r1, r2, _⟩ := ho3.sl.at (i := q) (by rw [← HN.out]; exact hqn)
      cases he
      rw [← HX.out] at r0 r1 r2
      rw [Nat.zero_add] at r0 r1 r2
      have hfr := ho3.free (q * 3 + 1)
      have c13 := (hf3.whole HH.out.book (by simp)).cell 1
      have f13 := (hf3.whole HH.out.book (by simp)).free 1
      simp at c13
      have hqX : q < X.length := by rw [← HN.out]; exact hqn
      have hst1 := Rb.store HH.out (hf3.setCell (p := ⟨g, q * 3 + 1, none⟩) (.inr hg) (.int .u64 (s : Nat))) (ho3.ends hqX s hs64) (by rw [List.length_set, ← HN.out]; exact hn16)
      have hst2 := Rb.store HH.out hf3 ho3 (by rw [← HN.out]; exact hn16)
      rw [List.length_set, ← HN.out, ← HX.out] at hst1
      rw [← HN.out] at hst2
      have HS1 := Lib.hid hst1
      have HS2 := Lib.hid hst2
      have hgp : ¬ g = p := fun e => by have := HH.out.book.lt; omega
      obtain ⟨xi, xe, xl⟩ := x
      simp only at r0 r1 r2 hover HSU
      clear hst1 hst2 happ g3 hf3 ho3 VX HLIT HLX cA HR HI HZ0 HZ1 HZ2 q0 q1 q2 c1 hfit1
      by_cases hgt : xe < s
      · go_wp2_with ((with_reducible refine (HSU.out _).mono ?_); rintro e w' ⟨rfl, rfl⟩)
        go_ret
        refine ⟨rfl, ?_⟩
        obtain ⟨a', c', hrb, hfb, _⟩ := HS1.out
        exact ⟨a', c', by rw [show max xe s = s by omega]; exact hrb, hfb⟩
      · go_wp2_with ((with_reducible refine (HSU.out _).mono ?_); rintro e w' ⟨rfl, rfl⟩)
        go_ret
        refine ⟨rfl, ?_⟩
        obtain ⟨a', c', hrb, hfb, _⟩ := HS2.out
        refine ⟨a', c', ?_, hfb⟩
        rw [HSM.out hgt, HX.out, getS hqX, List.set_getElem_self]
        exact hrb
  · have hat : atSI X id = -1 := by unfold atSI; rw [if_neg hin]
    rw [hat] at hR
    have HR := Lib.hid hR; clear hR
    have hc : renewC X id now = 11 := by unfold renewC; rw [if_neg hin]
    have hX : renewL X id now = X := by unfold renewL; rw [hc]; rfl
    rw [hc, hX]
    clear h hin hc hX hat
    go_enter Try.func14, Try.ntmps14
    go_wp2_with ((with_reducible refine HR.out.mono ?_); rintro e w' ⟨rfl, rfl⟩)
    go_ret
    exact ⟨rfl, HSAME.out⟩
end Go.Proofs.Ytefplgligmkbiaa
