/- Contracts of the program's right and New. -/
import Derived.Test.YtefplgligmkbiaaBkAdd
namespace Go.Proofs.Ytefplgligmkbiaa
open Go.RowKit

def RightTo (last : Nat) (L : List Sn) (k : Nat) : Prop := ∀ i, i < k → CondS last L i
theorem RightTo.next {last : Nat} {L : List Sn} {k : Nat} (h : RightTo last L k) (hk : CondS last L k) : RightTo last L (k + 1) := fun i hi => by
  rcases Nat.lt_or_eq_of_le (Nat.le_of_lt_succ hi) with h3 | rfl
  · exact h i h3
  · exact hk
def aheadS (L : List Sn) (k : Nat) : Nat := if k = 0 then 0 else (L.getD (k - 1) default).id
theorem condS_iff {last : Nat} {L : List Sn} {k : Nat} : CondS last L k ↔ ¬ (L.getD k default).id ≤ aheadS L k ∧ (L.getD k default).id ≤ last ∧ lastsS (L.getD k default).life := by
  unfold CondS aheadS lastsS
  by_cases h : k = 0
  · subst h; simp; omega
  · rw [if_neg h]
    have : 0 < k := by omega
    constructor
    · rintro ⟨h0, h1, h2, h3, h4⟩; have := h4 this; exact ⟨by omega, h1, h2, h3⟩
    · rintro ⟨h0, h1, h2, h3⟩; exact ⟨by omega, h1, h2, h3, fun _ => by omega⟩

set_option maxRecDepth 100000 in
set_option maxHeartbeats 4000000 in
theorem rightp_any {w : World} {a : Option Addr} {n cap last : Nat} {L : List Sn} (h : SL w [] a L) (hn : n = L.length) (hsz : n < 4611686018427387904) :
    Calls Try.prog 24 #[.int .u64 (last : Nat), .slice a n cap] w fun e w' => e = .returned (.bool (decide (RightS last L))) ∧ Frm [] w w' := by
  by_cases h16 : n ≤ 16
  · have HN := Lib.hid hn; clear hn
    have H := Lib.hid h; clear h
    have hg16 : ¬ (16 : Int) < (n : Int) := by omega
    go_enter Try.func24, Try.ntmps24
    go_wp2
    go_loopw [5, 13] (fun s5 s13 wr => ∃ k : Nat, k ≤ n ∧ s13 = .int .i64 k ∧ s5 = .int .u64 (aheadS L k : Nat) ∧ Hid (RightTo last L k) ∧ Hid (Frm [] w wr)) (fun _ s13 _ => n - (intOf s13).toNat)
    case atStart => exact ⟨0, Nat.zero_le _, rfl, rfl, fun t ht => absurd ht (Nat.not_lt_zero _), Lib.hid (Frm.refl _ _)⟩
    case round =>
      obtain ⟨k, hk, rfl, rfl, HI, HF⟩ := hrel
      by_cases hlt : k < n
      · have hsl := H.out.keep (F' := []) HF.out (by simp) (by simp)
        obtain ⟨b, off, rfl, p0, p1, p2, _⟩ := hsl.at (i := k) (by have := HN.out; omega)
        obtain ⟨x, hx⟩ : ∃ x, x = L.getD k default := ⟨_, rfl⟩
        have HCI : Hid (CondS last L k ↔ ¬ x.id ≤ aheadS L k ∧ x.id ≤ last ∧ lastsS x.life) := Lib.hid (by rw [hx]; exact condS_iff)
        have hnx : aheadS L (k + 1) = x.id := by unfold aheadS; rw [if_neg (by omega), hx]; rfl
        rw [← hx] at p0 p1 p2
        obtain ⟨ah, hah⟩ : ∃ ah, ah = aheadS L k := ⟨_, rfl⟩
        rw [← hah] at HCI ⊢
        have HNX := Lib.hid hnx
        have hLA := Lib.hid (fun w => lasts_any (w := w) x.life)
        have NO : Hid (¬ CondS last L k → decide (RightS last L) = false) := fun hc => decide_eq_false (fun hr => hc (hr.2 k (by have := HN.out; omega)))
        obtain ⟨i, en, li⟩ := x
        simp only at p0 p1 p2 HCI hLA HNX
        clear hx hnx hah hsl
        by_cases h1 : i ≤ ah
        · have d1 : decide (i ≤ ah) = true := decide_eq_true (by omega)
          have hno := NO.out (fun hc => (HCI.out.1 hc).1 h1)
          have HNO := Lib.hid hno
          clear hno hLA
          go_wp2
          go_ret
          exact ⟨by rw [HNO.out]; rfl, by repeat (first | exact HF.out | apply Frm.alloc)⟩
        · have d1 : decide (i ≤ ah) = false := decide_eq_false (by omega)
          by_cases h2 : i ≤ last
          · have d2 : decide (last < i) = false := decide_eq_false (by omega)
            by_cases h3 : lastsS li
            · have hLA2 := hLA
              rw [show decide (lastsS li) = true from decide_eq_true h3] at hLA2
              have HI2 : Hid (RightTo last L (k + 1)) := HI.out.next (HCI.out.2 ⟨h1, h2, h3⟩)
              clear h1 h2 h3 hLA
              go_wp2_with ((with_reducible refine (hLA2.out _).mono ?_); rintro e w' ⟨rfl, rfl⟩)
              go_roundw
              case rel => exact ⟨k + 1, by omega, by go_num, by rw [HNX.out], HI2, Lib.hid (by repeat (first | exact HF.out | apply Frm.alloc))⟩
              case measure => simp [intOf]; omega
            · have hLA2 := hLA
              rw [show decide (lastsS li) = false from decide_eq_false h3] at hLA2
              have hno := NO.out (fun hc => h3 (HCI.out.1 hc).2.2)
              have HNO := Lib.hid hno
              clear hno h1 h2 h3 hLA
              go_wp2_with ((with_reducible refine (hLA2.out _).mono ?_); rintro e w' ⟨rfl, rfl⟩)
              go_ret
              exact ⟨by rw [HNO.out]; rfl, by repeat (first | exact HF.out | apply Frm.alloc)⟩
          · have d2 : decide (last < i) = true := decide_eq_true (by omega)
            have hno := NO.out (fun hc => h2 (HCI.out.1 hc).2.1)
            have HNO := Lib.hid hno
            clear hno hLA h1 h2
            go_wp2
            go_ret
            exact ⟨by rw [HNO.out]; rfl, by repeat (first | exact HF.out | apply Frm.alloc)⟩
      · obtain rfl : k = n := by omega
        have HY : Hid (decide (RightS last L) = true) := decide_eq_true ⟨by rw [← HN.out]; exact h16, fun i hi => HI.out i (by rw [HN.out]; exact hi)⟩
        go_wp2
        go_ret
        exact ⟨by rw [HY.out]; rfl, HF.out⟩
  · have HNO : Hid (decide (RightS last L) = false) := decide_eq_false (fun hr => h16 (by rw [hn]; exact hr.1))
    clear h hn
    have hg16 : (16 : Int) < (n : Int) := by omega
    go_enter Try.func24, Try.ntmps24
    go_wp2
    go_ret
    exact ⟨by rw [HNO.out]; rfl, Frm.refl _ _⟩

/-- An empty book that was just made. -/
theorem Bk.made (w : World) (last : Nat) (hl : last < 18446744073709551616) : Bk (w.alloc (.cells #[.int .u64 (last : Nat), .int .i64 0, .int .u64 0, .int .u64 0, .int .u64 0, .int .u64 0, .int .u64 0, .int .u64 0, .int .u64 0, .int .u64 0, .int .u64 0, .int .u64 0, .int .u64 0, .int .u64 0, .int .u64 0, .int .u64 0, .int .u64 0, .int .u64 0, .int .u64 0, .int .u64 0, .int .u64 0, .int .u64 0, .int .u64 0, .int .u64 0, .int .u64 0, .int .u64 0, .int .u64 0, .int .u64 0, .int .u64 0, .int .u64 0, .int .u64 0, .int .u64 0, .int .u64 0, .int .u64 0, .int .u64 0, .int .u64 0, .int .u64 0, .int .u64 0, .int .u64 0, .int .u64 0, .int .u64 0, .int .u64 0, .int .u64 0, .int .u64 0, .int .u64 0, .int .u64 0, .int .u64 0, .int .u64 0, .int .u64 0, .int .u64 0] 63)) w.heap.size w.heap.size 63 last [] (List.replicate 16 ⟨0, 0, 0⟩) := by
  refine ⟨Whole.made _ _ _, rfl, by simp, fun y hy => ?_, Nat.le_refl _, hl, SrtS.nil _⟩
  rw [List.eq_of_mem_replicate hy]
  exact ⟨by decide, by decide, by decide⟩
/-- What New answers. -/
def NewEnd (w : World) (last : Nat) (L : List Sn) (e : Ending) (w' : World) : Prop :=
  (RightS last L ∧ ∃ p Y, e = .returned (.tuple #[.pointer (some ⟨p, 0, none⟩), .bool true]) ∧ Bk w' w.heap.size p 63 last L Y ∧ Frm [] w w') ∨
  (¬ RightS last L ∧ e = .returned (.tuple #[.pointer none, .bool false]) ∧ Frm [] w w')

set_option maxRecDepth 100000 in
set_option maxHeartbeats 4000000 in
theorem new_any {w : World} {a : Option Addr} {n cap last : Nat} {L : List Sn} (h : SL w [] a L) (hn : n = L.length) (hsz : n < 4611686018427387904) (hl : last < 18446744073709551616) :
    Calls Try.prog 9 #[.int .u64 (last : Nat), .slice a n cap] w (NewEnd w last L) := by
  have hR := rightp_any (cap := cap) (last := last) h hn hsz
  by_cases hr : RightS last L
  · rw [show decide (RightS last L) = true from decide_eq_true hr] at hR
    have HR := Lib.hid hR; clear hR
    have HN := Lib.hid hn; clear hn
    have H := Lib.hid h; clear h
    have HRR := Lib.hid hr; clear hr
    have HL := Lib.hid hl
    go_enter Try.func9, Try.ntmps9
    go_wp2_with fail
    (with_reducible refine HR.out.mono ?_)
    rintro e w1 ⟨rfl, hf1⟩
    have HF1 := Lib.hid hf1; clear hf1 HR
    go_wp2
    have hbk := Bk.made w1 last HL.out
    have hf2 : Frm [] w (w1.alloc (.cells #[.int .u64 (last : Nat), .int .i64 0, .int .u64 0, .int .u64 0, .int .u64 0, .int .u64 0, .int .u64 0, .int .u64 0, .int .u64 0, .int .u64 0, .int .u64 0, .int .u64 0, .int .u64 0, .int .u64 0, .int .u64 0, .int .u64 0, .int .u64 0, .int .u64 0, .int .u64 0, .int .u64 0, .int .u64 0, .int .u64 0, .int .u64 0, .int .u64 0, .int .u64 0, .int .u64 0, .int .u64 0, .int .u64 0, .int .u64 0, .int .u64 0, .int .u64 0, .int .u64 0, .int .u64 0, .int .u64 0, .int .u64 0, .int .u64 0, .int .u64 0, .int .u64 0, .int .u64 0, .int .u64 0, .int .u64 0, .int .u64 0, .int .u64 0, .int .u64 0, .int .u64 0, .int .u64 0, .int .u64 0, .int .u64 0, .int .u64 0, .int .u64 0] 63)) := HF1.out.alloc _
    obtain ⟨p, hp⟩ : ∃ p, p = w1.heap.size := ⟨_, rfl⟩
    obtain ⟨w2, hw2⟩ : ∃ w2, w2 = w1.alloc (.cells #[.int .u64 (last : Nat), .int .i64 0, .int .u64 0, .int .u64 0, .int .u64 0, .int .u64 0, .int .u64 0, .int .u64 0, .int .u64 0, .int .u64 0, .int .u64 0, .int .u64 0, .int .u64 0, .int .u64 0, .int .u64 0, .int .u64 0, .int .u64 0, .int .u64 0, .int .u64 0, .int .u64 0, .int .u64 0, .int .u64 0, .int .u64 0, .int .u64 0, .int .u64 0, .int .u64 0, .int .u64 0, .int .u64 0, .int .u64 0, .int .u64 0, .int .u64 0, .int .u64 0, .int .u64 0, .int .u64 0, .int .u64 0, .int .u64 0, .int .u64 0, .int .u64 0, .int .u64 0, .int .u64 0, .int .u64 0, .int .u64 0, .int .u64 0, .int .u64 0, .int .u64 0, .int .u64 0, .int .u64 0, .int .u64 0, .int .u64 0, .int .u64 0] 63) := ⟨_, rfl⟩
    rw [← hw2] at hbk hf2 ⊢
    rw [← hp] at hbk ⊢
    have hwp : w.heap.size ≤ p := by rw [hp]; exact HF1.out.size
    have HB : Hid (Bk w2 w.heap.size p 63 last [] (List.replicate 16 ⟨0, 0, 0⟩)) := Lib.hid { hbk with hp := hwp }
    have HF2 := Lib.hid hf2
    have HWP := Lib.hid hwp
    clear hw2 hp hbk hf2 HF1
    go_loopw [18] (fun s18 wr => ∃ (k : Nat) (Y : List Sn), k ≤ n ∧ s18 = .int .i64 k ∧ Hid (Bk wr w.heap.size p 63 last (L.take k) Y) ∧ Hid (Frm [] w wr)) (fun s18 _ => n - (intOf s18).toNat)
    case atStart => exact ⟨0, _, Nat.zero_le _, rfl, HB, HF2⟩
    case round =>
      obtain ⟨k, Y, hk, rfl, HBK, HF⟩ := hrel
      by_cases hlt : k < n
      · have hsl := H.out.keep (F' := []) HF.out (by simp) (by simp)
        obtain ⟨b, off, rfl, p0, p1, p2, hfit⟩ := hsl.at (i := k) (by have := HN.out; omega)
        have hkl : k < L.length := by have := HN.out; omega
        obtain ⟨x, hx⟩ : ∃ x, x = L.getD k default := ⟨_, rfl⟩
        have htk : L.take (k + 1) = L.take k ++ [x] := by rw [List.take_succ_eq_append_getElem hkl, hx, getS hkl]
        rw [← hx] at p0 p1 p2 hfit
        have HTK := Lib.hid htk
        have hlen : (L.take k).length < 16 := by have := HRR.out.1; rw [List.length_take]; omega
        have hst : SrtS last (L.take k ++ [x]) := by rw [← htk]; exact HRR.out.srt.sub (List.take_sublist _ _)
        have HAD := Lib.hid (fun (z : World) (hz : Frm [] wr z) => add_any (w := z) x (HBK.out.keep hz (by simp)) hfit hlen hst)
        obtain ⟨i, en, li⟩ := x
        simp only at p0 p1 p2
        unfold Sn.val at HAD
        simp only at HAD
        clear hsl hx htk hlen hst hkl
        go_wp2_with fail
        (with_reducible refine (HAD.out _ (by repeat (first | exact Frm.refl _ _ | apply Frm.alloc))).mono ?_)
        rintro e w5 ⟨rfl, ⟨Y5, hb5⟩, hf5⟩
        have HB5 := Lib.hid hb5
        have HF5 : Hid (Frm [] w w5) := Lib.hid ((HF.out.alloc _).trans hf5 (U := []) (by simp) (fun y hy => .inr (by simp at hy; subst hy; exact HWP.out)))
        clear hb5 hf5
        go_wp2
        go_roundw
        case rel => exact ⟨k + 1, Y5, by omega, by go_num, Lib.hid (by rw [HTK.out]; exact HB5.out), HF5⟩
        case measure => simp [intOf]; omega
      · obtain rfl : k = n := by omega
        have HE : Hid (Bk wr w.heap.size p 63 last L Y) := Lib.hid (by have h1 := HBK.out; rw [HN.out, List.take_length] at h1; exact h1)
        go_wp2
        go_ret2
        exact .inl ⟨HRR.out, p, Y, rfl, HE.out, HF.out⟩
  · rw [show decide (RightS last L) = false from decide_eq_false hr] at hR
    have HR := Lib.hid hR; clear hR
    have HRR := Lib.hid hr; clear hr hn h
    go_enter Try.func9, Try.ntmps9
    go_wp2_with fail
    (with_reducible refine HR.out.mono ?_)
    rintro e w1 ⟨rfl, hf1⟩
    have HF1 := Lib.hid hf1; clear hf1 HR
    go_wp2
    go_ret2
    exact .inr ⟨HRR.out, rfl, HF1.out⟩
end Go.Proofs.Ytefplgligmkbiaa
