/- Contract of the program's Renew. -/
import Derived.Test.YtefplgligmkbiaaBkFind
import Derived.Test.YtefplgligmkbiaaBkAdd
import Derived.Test.YtefplgligmkbiaaLsCalls
import Derived.Deep.RegionWith
namespace Go.Proofs.Ytefplgligmkbiaa
open Go.RowKit

theorem Bk.setEnds {w : World} {B p : Nat} {t : TypeId} {last : Nat} {X Y : List Sn} (h : Bk w B p t last X Y) {i : Nat} (hi : i < X.length) (e : Nat) (he : e < 18446744073709551616) :
    Bk (w.setCell ⟨p, 2 + i * 3 + 1, none⟩ (.int .u64 (e : Nat))) B p t last (X.set i { X.getD i default with ends := e }) (Y.set i { Y.getD i default with ends := e }) := by
  have hl := h.len
  have hf := h.few
  have hg := h.get hi
  have hiY : i < Y.length := by omega
  refine ⟨?_, ?_, by rw [List.length_set]; exact hl, fun y hy => ?_, h.hp, h.lt, h.srt.ends i e hi⟩
  · have h0 := h.book.put (2 + i * 3 + 1) (.int .u64 (e : Nat))
    have e1 : ((bkL last X.length Y).toArray.setIfInBounds (2 + i * 3 + 1) (.int .u64 (e : Nat))) = (bkL last (X.set i { X.getD i default with ends := e }).length (Y.set i { Y.getD i default with ends := e })).toArray := by
      simp only [List.setIfInBounds_toArray]
      congr 1
      simp only [bkL, List.length_set]
      rw [← snc_ends Y i e hiY, show 2 + i * 3 + 1 = i * 3 + 1 + 1 + 1 by omega]
      rfl
    rw [e1] at h0
    exact h0
  · rw [List.length_set, List.take_set, h.pre, hg]
  · rcases List.mem_or_eq_of_mem_set hy with h1 | h1
    · exact h.fits y h1
    · subst h1
      have h2 := h.fits (Y.getD i default) (by rw [getS hiY]; exact List.getElem_mem hiY)
      exact ⟨h2.1, he, h2.2.2⟩

set_option maxRecDepth 100000 in
set_option maxHeartbeats 4000000 in
theorem renew_any {w : World} {B p last : Nat} {X Y : List Sn} (id now : Nat) (h : Bk w B p 63 last X Y) (hnow : now < 18446744073709551616) :
    Calls Try.prog 13 #[.pointer (some ⟨p, 0, none⟩), .int .u64 (id : Nat), .int .u64 (now : Nat)] w fun e w' => e = .returned (.int .i64 (renewC X id now : Nat)) ∧ BkTo w w' B p last (renewL X id now) := by
  have hFI := Lib.hid (find_any id h)
  have HSAME : Hid (∀ z, Frm [] w z → BkTo w z B p last X) := Lib.hid (fun z hz => ⟨⟨Y, h.keep hz (by simp)⟩, hz.weak (by simp)⟩)
  by_cases hin : atS X id < X.length
  · obtain ⟨x, hx⟩ : ∃ x, x = X.getD (atS X id) default := ⟨_, rfl⟩
    have HAT := Lib.hid (fun (z : World) (hz : Frm [] w z) => (h.keep hz (by simp)).at hin)
    rw [← hx] at HAT
    have hi16 : atS X id < 16 := by have := h.few; omega
    have HIN := Lib.hid hin
    have hov := Lib.hid (fun w => over_any (w := w) x now)
    unfold Sn.val at hov
    by_cases hover : x.ends ≤ now
    · have hc : renewC X id now = 15 := by unfold renewC; rw [if_pos hin, ← hx, if_pos hover]
      have hX : renewL X id now = X := by unfold renewL; rw [hc]; rfl
      rw [hc, hX]
      rw [show decide (x.ends ≤ now) = true from decide_eq_true hover] at hov
      clear h hin hx hc hX hover
      go_enter Try.func13, Try.ntmps13
      go_wp2_with fail
      (with_reducible refine hFI.out.mono ?_)
      rintro e w1 ⟨v, rfl, hv, hf1⟩
      obtain rfl := finds_some HIN.out hv
      obtain ⟨q, hq⟩ : ∃ q, q = atS X id := ⟨_, rfl⟩
      rw [← hq] at HAT hi16 ⊢
      obtain ⟨p0, p1, p2, _⟩ := HAT.out _ hf1
      have HF1 := Lib.hid hf1
      clear hf1 hv hq HAT hFI HIN
      go_wp2_with fail
      (with_reducible refine (hov.out _).mono ?_)
      rintro e w2 ⟨rfl, hf2⟩
      have HF2 := Lib.hid ((HF1.out.alloc _).trans hf2 (U := []) (by simp) (by simp))
      clear hf2
      go_wp2
      go_ret
      exact ⟨rfl, HSAME.out _ HF2.out⟩
    · have hc : renewC X id now = 0 := by unfold renewC; rw [if_pos hin, ← hx, if_neg hover]
      have hX : renewL X id now = renewS X (atS X id) now := by unfold renewL; rw [hc]; rfl
      rw [hc, hX]
      unfold renewS
      rw [← hx]
      rw [show decide (x.ends ≤ now) = false from decide_eq_false hover] at hov
      have hxf := (h.at hin).2.2.2
      rw [← hx] at hxf
      obtain ⟨m, hm⟩ : ∃ m, m = max x.ends (sumN now x.life) := ⟨_, rfl⟩
      have hmlt : m < 18446744073709551616 := by have := sumN_lt now x.life; have := hxf.2.1; omega
      have HSE := Lib.hid (fun (z : World) (hz : Frm [] w z) => (h.keep hz (by simp)).setEnds hin m hmlt)
      have HBK := Lib.hid (fun (z : World) (hz : Frm [] w z) => (hz.whole h.book (by simp)))
      rw [← hx] at HSE
      have HEN := Lib.hid (fun w => end_any (w := w) now x.life hnow)
      obtain ⟨s, hs⟩ : ∃ s, s = sumN now x.life := ⟨_, rfl⟩
      rw [← hs] at hm HEN
      have hmax : max (x.ends : Int) (s : Int) = (m : Int) := by omega
      have hcase : (x.ends < s ∧ m = s) ∨ (x.ends = s ∧ m = s) ∨ (s < x.ends ∧ m = x.ends) := by omega
      rw [← hs, ← hm]
      obtain ⟨q, hq⟩ : ∃ q, q = atS X id := ⟨_, rfl⟩
      rw [← hq] at HAT hi16 HSE hx ⊢
      have HQ := Lib.hid hq
      have HX := Lib.hid hx
      have hlt := h.book.lt
      clear h hin hc hX hover hxf hmlt hs hm hq hx
      go_enter Try.func13, Try.ntmps13
      go_wp2_with fail
      (with_reducible refine hFI.out.mono ?_)
      rintro e w1 ⟨v, rfl, hv, hf1⟩
      obtain rfl := finds_some HIN.out hv
      rw [← HQ.out]
      obtain ⟨p0, p1, p2, _⟩ := HAT.out _ hf1
      have HF1 := Lib.hid hf1
      clear hf1 hv hFI HIN HQ
      obtain ⟨xi, xe, xl⟩ := x
      simp only at p0 p1 p2 hov HEN hmax hcase HSE
      go_wp2_with fail
      obtain ⟨w2, hw2⟩ : ∃ w2, w2 = w1.alloc (.cells #[.int .u64 (xi : Nat), .int .u64 (xe : Nat), .int .u64 (xl : Nat)] 56) := ⟨_, rfl⟩
      have hwb : Whole w2 w1.heap.size 56 #[.int .u64 (xi : Nat), .int .u64 (xe : Nat), .int .u64 (xl : Nat)] := by rw [hw2]; exact Whole.made _ _ _
      have hf2 : Frm [] w w2 := by rw [hw2]; exact HF1.out.alloc _
      rw [← hw2]
      obtain ⟨g, hg⟩ : ∃ g, g = w1.heap.size := ⟨_, rfl⟩
      rw [← hg] at hwb ⊢
      clear hw2 hg p0 p1 p2
      have HF2 := Lib.hid hf2
      have HWB := Lib.hid hwb
      clear hf2 hwb HF1
      (with_reducible refine (hov.out _).mono ?_)
      rintro e w3 ⟨rfl, hf3⟩
      have HF3 := Lib.hid (HF2.out.trans hf3 (U := []) (by simp) (by simp))
      have hwb3 := hf3.whole HWB.out (by simp)
      have b1 := hwb3.cell 1
      have b2 := hwb3.cell 2
      simp at b1 b2
      obtain ⟨_, p1, _, _⟩ := HAT.out _ HF3.out
      have fp := (HBK.out _ HF3.out).free (2 + q * 3 + 1)
      have HFIN := Lib.hid (HSE.out _ HF3.out.drew)
      have HFR : Hid (Frm [p] w (w3.drew.setCell ⟨p, 2 + q * 3 + 1, none⟩ (.int .u64 (m : Nat)))) := Lib.hid (((HF3.out.drew).weak (by simp)).setCell (.inl (by simp)) _)
      clear hf3 hwb3 HAT
      rcases hcase with ⟨hle, rfl⟩ | ⟨hle, rfl⟩ | ⟨hle, rfl⟩
      · have hlt2 : ¬ m < xe := by omega
        go_wp2
        go_region_with (go_at_call 27; refine (HEN.out _).mono ?_; rintro e w' ⟨rfl, rfl⟩)
        all_goals
          go_wp2
          go_ret
          exact ⟨rfl, ⟨_, HFIN.out⟩, HFR.out⟩
      · subst hle
        go_wp2
        go_region_with (go_at_call 27; refine (HEN.out _).mono ?_; rintro e w' ⟨rfl, rfl⟩)
        all_goals
          go_wp2
          go_ret
          exact ⟨rfl, ⟨_, HFIN.out⟩, HFR.out⟩
      · have hlt2 : ¬ m < s := by omega
        go_wp2
        go_region_with (go_at_call 27; refine (HEN.out _).mono ?_; rintro e w' ⟨rfl, rfl⟩)
        all_goals
          go_wp2
          go_ret
          exact ⟨rfl, ⟨_, HFIN.out⟩, HFR.out⟩
  · have hc : renewC X id now = 11 := by unfold renewC; rw [if_neg hin]
    have hX : renewL X id now = X := by unfold renewL; rw [hc]; rfl
    rw [hc, hX]
    have HIN := Lib.hid hin
    clear h hin hc hX
    go_enter Try.func13, Try.ntmps13
    go_wp2_with fail
    (with_reducible refine hFI.out.mono ?_)
    rintro e w1 ⟨v, rfl, hv, hf1⟩
    obtain ⟨i, rfl⟩ := finds_none HIN.out hv
    have HF1 := Lib.hid hf1
    clear hf1 hv
    go_wp2
    go_ret
    exact ⟨rfl, HSAME.out _ HF1.out⟩
end Go.Proofs.Ytefplgligmkbiaa
