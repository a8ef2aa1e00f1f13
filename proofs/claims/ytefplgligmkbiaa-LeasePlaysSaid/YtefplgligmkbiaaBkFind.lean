/- Contracts of slices.BinarySearchFunc over sessions, of find and Live. -/
import Derived.Test.YtefplgligmkbiaaBkBase
import Derived.Test.YtefplgligmkbiaaRbAt
namespace Go.Proofs.Ytefplgligmkbiaa
open Go.RowKit

theorem cmpN_lt (a b : Nat) : decide (cmpN a b < 0) = decide (a < b) := by
  unfold cmpN
  by_cases h : a < b
  · simp [h]
  · rw [if_neg h]; split <;> simp [h]
theorem cmpN_eq (a b : Nat) : (cmpN a b == 0) = decide (a = b) := by
  unfold cmpN
  by_cases h : a < b
  · rw [if_pos h, decide_eq_false (by omega)]; rfl
  · rw [if_neg h]
    by_cases h2 : b < a
    · rw [if_pos h2, decide_eq_false (by omega)]; rfl
    · rw [if_neg h2, decide_eq_true (by omega)]; rfl
/-- What a search for an Id answers: whether it is there, and then where. -/
def FindsS (X : List Sn) (id : Nat) (v : Value) : Prop := ∃ i : Nat, v = .tuple #[.int .i64 (i : Nat), .bool (decide (atS X id < X.length))] ∧ (atS X id < X.length → i = atS X id)
theorem finds_some {X : List Sn} {id : Nat} (h : atS X id < X.length) {v : Value} (hv : FindsS X id v) : v = .tuple #[.int .i64 (atS X id : Nat), .bool true] := by
  obtain ⟨i, rfl, hi⟩ := hv
  rw [decide_eq_true h, hi h]
theorem finds_none {X : List Sn} {id : Nat} (h : ¬ atS X id < X.length) {v : Value} (hv : FindsS X id v) : ∃ i : Nat, v = .tuple #[.int .i64 (i : Nat), .bool false] := by
  obtain ⟨i, rfl, hi⟩ := hv
  rw [decide_eq_false h]; exact ⟨i, rfl⟩

set_option maxRecDepth 100000 in
set_option maxHeartbeats 2000000 in
theorem bsearch_any {w : World} {last n cap : Nat} {a : Option Addr} {X : List Sn} (id : Nat) (h : SL w [] a X) (hs : SrtS last X) (hn : n = X.length) (hn16 : n ≤ 16) :
    Calls Try.prog 36 #[.slice a n cap, .int .u64 (id : Nat), .func (.func 37) #[] #[]] w
      fun e w' => ∃ v, e = .returned v ∧ FindsS X id v ∧ Frm [] w w' := by
  have HH := Lib.hid h; clear h
  have HS := Lib.hid hs; clear hs
  have HN := Lib.hid hn; clear hn
  go_enter Try.func36, Try.ntmps36
  go_wp2
  go_loopw [9, 10] (fun s5 s6 wr => ∃ lo hi : Nat, s5 = .int .i64 lo ∧ s6 = .int .i64 hi ∧ lo ≤ hi ∧ hi ≤ n ∧ Hid (∀ t, t < lo → (X.getD t default).id < id) ∧ Hid (∀ t, hi ≤ t → t < n → id ≤ (X.getD t default).id) ∧ Hid (Frm [] w wr)) (fun s5 s6 _ => ((intOf s6).toNat - (intOf s5).toNat))
  case atStart => exact ⟨0, n, rfl, rfl, Nat.zero_le _, Nat.le_refl _, Lib.hid (fun t ht => absurd ht (Nat.not_lt_zero _)), Lib.hid (fun t h1 h2 => by omega), Lib.hid (Frm.refl _ _)⟩
  case round =>
    obtain ⟨lo, hi, rfl, rfl, hlh, hin, HA, HB, HF⟩ := hrel
    by_cases hlt : lo < hi
    · obtain ⟨m, hm⟩ : ∃ m, m = (lo + hi) / 2 := ⟨_, rfl⟩
      have hm1 : lo ≤ m := by omega
      have hm2 : m < hi := by omega
      have hmi : ((lo : Int) + (hi : Int)) / 2 = (m : Int) := by omega
      have hsl := HH.out.keep (F' := []) HF.out (by simp) (by simp)
      obtain ⟨b, off, rfl, p0, p1, p2, _⟩ := hsl.at (i := m) (by have := HN.out; omega)
      obtain ⟨x, hx⟩ : ∃ x, x = X.getD m default := ⟨_, rfl⟩
      rw [← hx] at p0 p1 p2
      have HX := Lib.hid hx; clear hx hsl
      have hC := Lib.hid (fun w => findf_any (w := w) x id)
      have hc2 : decide (cmpN x.id id < 0) = decide (x.id < id) := cmpN_lt _ _
      obtain ⟨c, hc⟩ : ∃ c, c = cmpN x.id id := ⟨_, rfl⟩
      rw [← hc] at hC hc2
      clear hc
      unfold Sn.val at hC
      by_cases hkl : x.id < id
      · rw [decide_eq_true hkl] at hc2
        have HKL := Lib.hid hkl
        clear hkl hm
        go_wp2_with ((with_reducible refine (hC.out _).mono ?_); rintro e w' ⟨rfl, hf'⟩; have HF2 := Lib.hid (HF.out.trans hf' (U := []) (by simp) (by simp)); clear hf')
        go_roundw
        case rel => exact ⟨m + 1, hi, by go_num, rfl, by omega, hin, Lib.hid (fun t h1 => by
            rcases Nat.lt_or_ge t m with h3 | h3
            · have := HS.out.lt h3 (by rw [← HN.out]; omega)
              have h4 := HKL.out
              rw [HX.out] at h4
              omega
            · have : t = m := by omega
              subst this; rw [← HX.out]; exact HKL.out), HB, HF2⟩
        case measure => simp [intOf]; omega
      · rw [decide_eq_false hkl] at hc2
        have HKL := Lib.hid hkl
        clear hkl hm
        go_wp2_with ((with_reducible refine (hC.out _).mono ?_); rintro e w' ⟨rfl, hf'⟩; have HF2 := Lib.hid (HF.out.trans hf' (U := []) (by simp) (by simp)); clear hf')
        go_roundw
        case rel => exact ⟨lo, m, rfl, rfl, by omega, by omega, HA, Lib.hid (fun t h1 h2 => by
            have h4 := HKL.out
            rw [HX.out] at h4
            rcases Nat.lt_or_ge m t with h3 | h3
            · have := HS.out.lt h3 (by rw [← HN.out]; exact h2)
              omega
            · have : t = m := by omega
              subst this; omega), HF2⟩
        case measure => simp [intOf]; omega
    · obtain rfl : hi = lo := by omega
      by_cases hlt2 : hi < n
      · have hsl := HH.out.keep (F' := []) HF.out (by simp) (by simp)
        obtain ⟨b, off, rfl, p0, p1, p2, _⟩ := hsl.at (i := hi) (by have := HN.out; omega)
        obtain ⟨x, hx⟩ : ∃ x, x = X.getD hi default := ⟨_, rfl⟩
        rw [← hx] at p0 p1 p2
        have hfin : FindsS X id (.tuple #[.int .i64 (hi : Nat), .bool (decide (x.id = id))]) := by
          by_cases he : x.id = id
          · have h1 : atS X id = hi := atS_eq (by rw [← HN.out]; exact hlt2) (by rw [← hx]; exact he) (fun t ht => Nat.ne_of_lt (HA.out t ht))
            refine ⟨hi, ?_, fun _ => h1.symm⟩
            rw [h1, decide_eq_true he, decide_eq_true (by rw [← HN.out]; exact hlt2)]
          · have h1 : ¬ atS X id < X.length := atS_none (fun t ht => by
              rcases Nat.lt_trichotomy t hi with h2 | h2 | h2
              · exact Nat.ne_of_lt (HA.out t h2)
              · subst h2; rw [← hx]; exact he
              · have h3 := HS.out.lt h2 ht
                have h4 := HB.out hi (Nat.le_refl _) hlt2
                omega)
            exact ⟨hi, by rw [decide_eq_false he, decide_eq_false h1], fun h => absurd h h1⟩
        have HX := Lib.hid hx; clear hx hsl
        have HFIN := Lib.hid hfin
        have hC := Lib.hid (fun w => findf_any (w := w) x id)
        have hc2 : (cmpN x.id id == 0) = decide (x.id = id) := cmpN_eq _ _
        obtain ⟨c, hc⟩ : ∃ c, c = cmpN x.id id := ⟨_, rfl⟩
        obtain ⟨d, hd⟩ : ∃ d, d = decide (x.id = id) := ⟨_, rfl⟩
        rw [← hc] at hC hc2
        rw [← hd] at hc2 HFIN
        clear hc hd hfin HA HB
        unfold Sn.val at hC
        have hlt3 : (hi : Int) < (n : Int) := by omega
        go_wp2_with ((with_reducible refine (hC.out _).mono ?_); rintro e w' ⟨rfl, hf'⟩; have HF2 := Lib.hid (HF.out.trans hf' (U := []) (by simp) (by simp)); clear hf')
        go_ret2
        exact ⟨_, rfl, HFIN.out, HF2.out⟩
      · have hfin : FindsS X id (.tuple #[.int .i64 (hi : Nat), .bool false]) := by
          have h1 : ¬ atS X id < X.length := atS_none (fun t ht => Nat.ne_of_lt (HA.out t (by have := HN.out; omega)))
          exact ⟨hi, by rw [decide_eq_false h1], fun h => absurd h h1⟩
        have HFIN := Lib.hid hfin
        clear hfin HA HB
        go_wp2
        go_ret2
        exact ⟨_, rfl, HFIN.out, HF.out⟩

set_option maxRecDepth 100000 in
set_option maxHeartbeats 1000000 in
theorem find_any {w : World} {B p last : Nat} {X Y : List Sn} (id : Nat) (h : Bk w B p 63 last X Y) :
    Calls Try.prog 29 #[.pointer (some ⟨p, 0, none⟩), .int .u64 (id : Nat)] w fun e w' => ∃ v, e = .returned v ∧ FindsS X id v ∧ Frm [] w w' := by
  have hS := Lib.hid (sessions_any h)
  obtain ⟨n, hn⟩ : ∃ n, n = X.length := ⟨_, rfl⟩
  rw [← hn] at hS
  have HB := Lib.hid (fun (z : World) (hz : Frm [] w z) => bsearch_any (w := z) (cap := 16) id ((h.keep hz (by simp)).sl (F := []) (by simp)) h.srt hn (by have := h.few; omega))
  clear h hn
  go_enter Try.func29, Try.ntmps29
  go_wp2_with fail
  (with_reducible refine hS.out.mono ?_)
  rintro e w1 ⟨rfl, hf1⟩
  have HF1 := Lib.hid hf1; clear hf1
  go_wp2_with fail
  (with_reducible refine (HB.out _ HF1.out).mono ?_)
  rintro e w2 ⟨v, rfl, hv, hf2⟩
  obtain ⟨i, rfl, hi⟩ := hv
  have HF2 := Lib.hid (HF1.out.trans hf2 (U := []) (by simp) (by simp))
  have HV : Hid (FindsS X id (.tuple #[.int .i64 (i : Nat), .bool (decide (atS X id < X.length))])) := Lib.hid ⟨i, rfl, hi⟩
  obtain ⟨d, hd⟩ : ∃ d, d = decide (atS X id < X.length) := ⟨_, rfl⟩
  rw [← hd] at HV ⊢
  clear hi hf2 hd
  go_wp2
  go_ret2
  exact ⟨_, rfl, HV.out, HF2.out⟩

set_option maxRecDepth 100000 in
set_option maxHeartbeats 1000000 in
theorem live_any {w : World} {B p last : Nat} {X Y : List Sn} (id now : Nat) (h : Bk w B p 63 last X Y) :
    Calls Try.prog 21 #[.pointer (some ⟨p, 0, none⟩), .int .u64 (id : Nat), .int .u64 (now : Nat)] w fun e w' => e = .returned (.bool (liveS X id now)) ∧ Frm [] w w' := by
  have hFI := Lib.hid (find_any id h)
  unfold liveS
  by_cases hin : atS X id < X.length
  · rw [decide_eq_true hin, Bool.true_and]
    obtain ⟨x, hx⟩ : ∃ x, x = X.getD (atS X id) default := ⟨_, rfl⟩
    have HAT := Lib.hid (fun (z : World) (hz : Frm [] w z) => (h.keep hz (by simp)).at hin)
    rw [← hx] at HAT ⊢
    have hi16 : atS X id < 16 := by have := h.few; omega
    have HIN := Lib.hid hin
    have hov := Lib.hid (fun w => over_any (w := w) x now)
    have hd : decide (now < x.ends) = !decide (x.ends ≤ now) := by
      by_cases h1 : x.ends ≤ now
      · rw [decide_eq_true h1, decide_eq_false (by omega)]; rfl
      · rw [decide_eq_false h1, decide_eq_true (by omega)]; rfl
    rw [hd]
    obtain ⟨o, ho⟩ : ∃ o, o = decide (x.ends ≤ now) := ⟨_, rfl⟩
    rw [← ho] at hov ⊢
    unfold Sn.val at hov
    clear h hin hx hd ho
    go_enter Try.func21, Try.ntmps21
    go_wp2_with fail
    (with_reducible refine hFI.out.mono ?_)
    rintro e w1 ⟨v, rfl, hv, hf1⟩
    obtain rfl := finds_some HIN.out hv
    obtain ⟨q, hq⟩ : ∃ q, q = atS X id := ⟨_, rfl⟩
    rw [← hq] at HAT hi16 ⊢
    obtain ⟨p0, p1, p2, _⟩ := HAT.out _ hf1
    have HF1 := Lib.hid hf1
    clear hf1 hv hq HAT hFI HIN
    go_wp2_with fail
    (with_reducible refine (hov.out _).mono ?_)
    rintro e w2 ⟨rfl, hf2⟩
    have HF2 := Lib.hid (HF1.out.trans hf2 (U := []) (by simp) (by simp))
    clear hf2
    go_wp2
    go_ret
    exact ⟨rfl, HF2.out⟩
  · rw [decide_eq_false hin, Bool.false_and]
    have HIN := Lib.hid hin
    clear h hin
    go_enter Try.func21, Try.ntmps21
    go_wp2_with fail
    (with_reducible refine hFI.out.mono ?_)
    rintro e w1 ⟨v, rfl, hv, hf1⟩
    obtain ⟨i, rfl⟩ := finds_none HIN.out hv
    have HF1 := Lib.hid hf1
    clear hf1 hv
    go_wp2
    go_ret
    exact ⟨rfl, HF1.out⟩
end Go.Proofs.Ytefplgligmkbiaa
