/- The program's Map in memory; contracts of New, count, parts, slices.BinarySearch over ints, Of. -/
import Derived.Test.YtbdgmpfdcmmfhaaDoorBmMath
import Derived.Test.YtbdgmpfdcmmfhaaDoorStr
import Derived.Laws.OwnMore
import Derived.RegionTactic
import Derived.BigRegion
import Derived.BigQuiet
import Derived.Deep.QuietTactic
import Derived.IntWalk
namespace Go.Proofs.YtbdgmpfdcmmfhaaDoor
open Go.RowKit
set_option maxRecDepth 100000

/-- At p lies a Map whose bundles, but the first, begin at L. -/
structure Bm (w : World) (p : Nat) (a : Option Addr) (cap : Nat) (L : List Nat) : Prop where
  tab : Whole w p 54 #[.slice a L.length cap]
  row : IvL w [p] a L
  le : L.length ≤ cap
  cm : cap ≤ 9223372036854775807
  nil : a = none → cap = 0
  ok : BmOk L
theorem Bm.keep {w w' : World} {p : Nat} {a : Option Addr} {cap : Nat} {L : List Nat} (h : Bm w p a cap L) (hf : Frm [] w w') : Bm w' p a cap L :=
  ⟨hf.whole h.tab (by simp), h.row.keep hf (by simp) (fun x hx => .inl hx), h.le, h.cm, h.nil, h.ok⟩
/-- Blocks apart from the Map's and its row's may turn. -/
theorem Bm.keepS {w w' : World} {p : Nat} {a : Option Addr} {cap : Nat} {L : List Nat} {S : List Nat} (h : Bm w p a cap L) (hf : Frm S w w') (hp : p ∉ S) (hr : ∀ g ∈ blk a, g ∉ S) : Bm w' p a cap L := by
  refine ⟨hf.whole h.tab hp, ⟨?_, h.row.away⟩, h.le, h.cm, h.nil, h.ok⟩
  exact h.row.vals.keep hf (fun hne q hq hm => hr q.block (by rw [hq]; simp) hm)
theorem Bm.slice {w : World} {p : Nat} {a : Option Addr} {cap : Nat} {L : List Nat} (h : Bm w p a cap L) : IvL w [] a L := h.row.keep (Frm.refl [] w) (by simp) (by simp)
/-- Another row is stored. -/
theorem Bm.store {w w1 : World} {p : Nat} {a b : Option Addr} {cap n c' : Nat} {L L' : List Nat} (h : Bm w p a cap L) (hf : Frm [] w w1) (ho : IvOwn w1 w.heap.size 3 [] b c' L') (hn : n = L'.length) (ok : BmOk L') :
    Bm (w1.setCell ⟨p, 0, none⟩ (.slice b n c')) p b c' L' := by
  subst hn
  have hp := h.tab.lt
  have h1 : Frm [p] w1 (w1.setCell ⟨p, 0, none⟩ (.slice b L'.length c')) := (Frm.refl _ _).setCell (.inl (by simp)) _
  have hcap : L'.length ≤ c' ∧ c' ≤ maxLen ∧ (b = none → c' = 0) := by
    rcases ho.own.2 with ⟨hv, hl⟩ | ⟨g, c, cur, hv, _, _, h1, h2, _⟩
    · simp only [Value.slice.injEq] at hv
      rw [hl, hv.2.2]; exact ⟨Nat.le_refl _, Nat.zero_le _, fun _ => rfl⟩
    · simp only [Value.slice.injEq] at hv
      obtain ⟨rfl, _, rfl⟩ := hv
      exact ⟨h1, h2, fun h => by cases h⟩
  have hnp : ∀ g ∈ blk b, g ≠ p := fun g hg e => by have := (ho.blk_lt g hg).1; omega
  refine ⟨by have := (hf.whole h.tab (by simp)).put 0 (.slice b L'.length c'); simpa using this, ⟨?_, fun _ q hq => by simpa using hnp q.block (by rw [hq]; simp)⟩, hcap.1, by have := hcap.2.1; unfold maxLen at this; omega, hcap.2.2, ok⟩
  exact ho.sl.vals.keep h1 (fun hne q hq hm => hnp q.block (by rw [hq]; simp) (by simpa using hm))

def BmTo (w : World) (p : Nat) (a : Option Addr) (f' : Nat → Bool) (c : Nat) (e : Ending) (w' : World) : Prop := e = .returned (.int .i64 (c : Nat)) ∧ (∃ a' cap' L', Bm w' p a' cap' L' ∧ Bf L' = f' ∧ (∀ g ∈ blk a', g ∈ blk a ∨ w.heap.size ≤ g)) ∧ Frm [p] w w'

set_option maxHeartbeats 1000000 in
theorem bmnew_any (w : World) : Calls Tryd.prog 9 #[] w fun e w' => e = .returned (.pointer (some ⟨w.heap.size, 0, none⟩)) ∧ Bm w' w.heap.size none 0 [] ∧ Frm [] w w' := by
  have HB : Hid (Bm (w.alloc (.cells #[.slice none 0 0] 54)) w.heap.size none 0 []) := Lib.hid ⟨Whole.made _ _ _, IvL.nil _ _ _, Nat.le_refl _, Nat.zero_le _, fun _ => rfl, bm_nil⟩
  have HF : Hid (Frm [] w (w.alloc (.cells #[.slice none 0 0] 54))) := Lib.hid ((Frm.refl _ _).alloc _)
  go_enter Tryd.func9, Tryd.ntmps9
  go_wp2
  go_ret
  exact ⟨rfl, HB.out, HF.out⟩
set_option maxHeartbeats 1000000 in
theorem bmcount_any {w : World} {p : Nat} {a : Option Addr} {cap : Nat} {L : List Nat} (h : Bm w p a cap L) : Calls Tryd.prog 26 #[.pointer (some ⟨p, 0, none⟩)] w fun e w' => e = .returned (.int .i64 ((L.length + 1 : Nat) : Nat)) ∧ w' = w := by
  have c0 := h.tab.cell 0
  simp at c0
  obtain ⟨n, hn⟩ : ∃ n, n = L.length := ⟨_, rfl⟩
  rw [← hn] at c0 ⊢
  have hn15 : n ≤ 15 := by have := h.ok.few; omega
  have e1 : (1 : Int) + (n : Int) = ((n + 1 : Nat) : Int) := by omega
  have e2 : IntKind.i64.wrap ((n + 1 : Nat) : Int) = ((n + 1 : Nat) : Int) := IntWalk.i64_in _ (by omega)
  clear h hn
  go_enter Tryd.func26, Tryd.ntmps26
  go_wp2
  go_ret
  exact ⟨ret_same (by omega), rfl⟩
set_option maxHeartbeats 1000000 in
theorem bmparts_any (w : World) (k : Int) : Calls Tryd.prog 24 #[.int .i64 k] w fun e w' => e = .returned (.bool (decide (0 < k ∧ k < 65536))) ∧ w' = w := by
  by_cases h1 : 0 < k
  · by_cases h2 : k < 65536
    · rw [decide_eq_true (show 0 < k ∧ k < 65536 from ⟨h1, h2⟩)]
      go_enter Tryd.func24, Tryd.ntmps24
      go_wp2
      go_ret
      exact ⟨rfl, rfl⟩
    · rw [decide_eq_false (show ¬ (0 < k ∧ k < 65536) from fun h => h2 h.2)]
      go_enter Tryd.func24, Tryd.ntmps24
      go_wp2
      go_ret
      exact ⟨rfl, rfl⟩
  · rw [decide_eq_false (show ¬ (0 < k ∧ k < 65536) from fun h => h1 h.1)]
    go_enter Tryd.func24, Tryd.ntmps24
    go_wp2
    go_ret
    exact ⟨rfl, rfl⟩
set_option maxHeartbeats 1000000 in
theorem bmnan_any (w : World) (k : Int) : Calls Tryd.prog 30 #[.int .i64 k] w fun e w' => e = .returned (.bool false) ∧ w' = w := by
  go_enter Tryd.func30, Tryd.ntmps30
  go_wp2
  go_ret
  exact ⟨by simp, rfl⟩
set_option maxHeartbeats 1000000 in
theorem bmcnan_any (w : World) (k : Int) : Calls Tryd.prog 35 #[.int .i64 k] w fun e w' => e = .returned (.bool false) ∧ w' = w := by
  go_enter Tryd.func35, Tryd.ntmps35
  go_wp2
  go_ret
  exact ⟨by simp, rfl⟩
set_option maxHeartbeats 1000000 in
theorem bmless_any (w : World) (x y : Int) : Calls Tryd.prog 29 #[.int .i64 x, .int .i64 y] w fun e w' => e = .returned (.bool (decide (x < y))) ∧ w' = w := by
  have HA := Lib.hid (fun z k => bmcnan_any z k)
  go_enter Tryd.func29, Tryd.ntmps29
  go_wp2_with ((with_reducible refine (HA.out _ _).mono ?_); rintro e w' ⟨rfl, rfl⟩)
  go_ret
  exact ⟨rfl, rfl⟩

/-- What BinarySearch answers. -/
def SrcE (w : World) (L : List Nat) (k : Int) (e : Ending) (w' : World) : Prop := ∃ (i : Nat) (b : Bool), e = .returned (.tuple #[.int .i64 (i : Nat), .bool b]) ∧ w' = w ∧ AtB L k i ∧ (b = true ↔ ∃ x, k = (x : Nat) ∧ x ∈ L)
set_option maxHeartbeats 2000000 in
theorem bmsearch_any {w : World} {a : Option Addr} {cap : Nat} {L : List Nat} (k : Int) (h : IvL w [] a L) (hl : BmOk L) {n : Nat} (hn : n = L.length) :
    Calls Tryd.prog 23 #[.slice a n cap, .int .i64 k] w (SrcE w L k) := by
  have hn15 : n ≤ 15 := by have := hl.few; omega
  have HN := Lib.hid hn; clear hn
  have HH := Lib.hid h; clear h
  have HL := Lib.hid hl; clear hl
  have HA := Lib.hid (fun z x y => bmless_any z x y)
  have HB := Lib.hid (fun z x => bmnan_any z x)
  go_enter Tryd.func23, Tryd.ntmps23
  go_wp2
  go_loop [7, 8] (fun s7 s8 => ∃ lo hi : Nat, s7 = .int .i64 lo ∧ s8 = .int .i64 hi ∧ lo ≤ hi ∧ hi ≤ n ∧ Hid (∀ t, t < lo → ((L.getD t 0 : Nat) : Int) < k) ∧ Hid (∀ t, hi ≤ t → t < n → k ≤ ((L.getD t 0 : Nat) : Int))) (fun s7 s8 => ((intOf s8).toNat - (intOf s7).toNat))
  case atStart => exact ⟨0, n, rfl, rfl, Nat.zero_le _, Nat.le_refl _, Lib.hid (fun t ht => absurd ht (Nat.not_lt_zero _)), Lib.hid (fun t h1 h2 => by omega)⟩
  case round =>
    obtain ⟨lo, hi, rfl, rfl, hlh, hin, HX, HY⟩ := hrel
    by_cases hlt : lo < hi
    · obtain ⟨m, hm⟩ : ∃ m, m = (lo + hi) / 2 := ⟨_, rfl⟩
      have hm1 : lo ≤ m := by omega
      have hm2 : m < hi := by omega
      have hmi : ((lo : Int) + (hi : Int)) / 2 = (m : Int) := by omega
      obtain ⟨b, off, rfl, p0⟩ := HH.out.at (i := m) (by have := HN.out; omega)
      have HLT : Hid (∀ t, t < m → ((L.getD t 0 : Nat) : Int) ≤ ((L.getD m 0 : Nat) : Int)) := Lib.hid (fun t ht => by
        have := HL.out.lt ht (by have := HN.out; omega); omega)
      have HGT : Hid (∀ t, m ≤ t → t < n → ((L.getD m 0 : Nat) : Int) ≤ ((L.getD t 0 : Nat) : Int)) := Lib.hid (fun t h1 h2 => by
        rcases Nat.eq_or_lt_of_le h1 with e | e
        · subst e; omega
        · have := HL.out.lt e (by have := HN.out; omega); omega)
      obtain ⟨K, hK⟩ : ∃ K, K = L.getD m 0 := ⟨_, rfl⟩
      rw [← hK] at p0
      have HK := Lib.hid hK; clear hK
      by_cases hkl : (K : Int) < k
      · have hc : decide ((K : Int) < k) = true := decide_eq_true hkl
        have HKL := Lib.hid hkl
        clear hkl hm
        go_wp2_with ((with_reducible refine (HA.out _ _ _).mono ?_); rintro e w' ⟨rfl, rfl⟩)
        go_round
        case rel => exact ⟨m + 1, hi, by go_num, rfl, by omega, hin, Lib.hid (fun t h1 => by
            have h3 := HKL.out
            rw [HK.out] at h3
            rcases Nat.lt_or_ge t m with h4 | h4
            · have := HLT.out t h4; omega
            · have : t = m := by omega
              subst this; exact h3), HY⟩
        case measure => simp [intOf]; omega
      · have hc : decide ((K : Int) < k) = false := decide_eq_false hkl
        have HKL := Lib.hid hkl
        clear hkl hm
        go_wp2_with ((with_reducible refine (HA.out _ _ _).mono ?_); rintro e w' ⟨rfl, rfl⟩)
        go_round
        case rel => exact ⟨lo, m, rfl, rfl, by omega, by omega, HX, Lib.hid (fun t h1 h2 => by
            have h3 := HKL.out
            rw [HK.out] at h3
            have := HGT.out t h1 h2; omega)⟩
        case measure => simp [intOf]; omega
    · obtain rfl : hi = lo := by omega
      have AT : Hid (AtB L k hi) := Lib.hid ⟨by rw [← HN.out]; exact hin, HX.out, fun t h1 h2 => HY.out t h1 (by rw [HN.out]; exact h2)⟩
      have IFF : Hid ((∃ x : Nat, k = (x : Nat) ∧ x ∈ L) ↔ hi < n ∧ ((L.getD hi 0 : Nat) : Int) = k) := Lib.hid (by rw [HN.out]; exact AT.out.mem HL.out)
      by_cases hlt2 : hi < n
      · obtain ⟨b, off, rfl, p0⟩ := HH.out.at (i := hi) (by have := HN.out; omega)
        obtain ⟨K, hK⟩ : ∃ K, K = L.getD hi 0 := ⟨_, rfl⟩
        rw [← hK] at p0
        have IFF2 : Hid ((∃ x : Nat, k = (x : Nat) ∧ x ∈ L) ↔ (K : Int) = k) := Lib.hid (by rw [hK]; exact IFF.out.trans (and_iff_right hlt2))
        have hlt3 : (hi : Int) < (n : Int) := by omega
        clear hK
        by_cases hk : (K : Int) = k
        · have e1 : ((K : Int) == k) = true := by simp [hk]
          have FIN : Hid (SrcE w L k (.returned (.tuple #[.int .i64 (hi : Nat), .bool true])) w) := Lib.hid ⟨hi, true, rfl, rfl, AT.out, by rw [IFF2.out]; simp [hk]⟩
          clear hk
          go_wp2_with ((with_reducible refine (HB.out _ _).mono ?_); rintro e w' ⟨rfl, rfl⟩)
          go_ret2
          exact FIN.out
        · have e1 : ((K : Int) == k) = false := by simp [hk]
          have FIN : Hid (SrcE w L k (.returned (.tuple #[.int .i64 (hi : Nat), .bool false])) w) := Lib.hid ⟨hi, false, rfl, rfl, AT.out, by rw [IFF2.out]; simp [hk]⟩
          clear hk
          go_wp2_with ((with_reducible refine (HB.out _ _).mono ?_); rintro e w' ⟨rfl, rfl⟩)
          go_ret2
          exact FIN.out
      · have hlt3 : ¬ ((hi : Int) < (n : Int)) := by omega
        have FIN : Hid (SrcE w L k (.returned (.tuple #[.int .i64 (hi : Nat), .bool false])) w) := Lib.hid ⟨hi, false, rfl, rfl, AT.out, by rw [IFF.out]; simp [hlt2]⟩
        go_wp2
        go_ret2
        exact FIN.out

set_option maxHeartbeats 4000000 in
theorem bmof_any {w : World} {p : Nat} {a : Option Addr} {cap : Nat} {L : List Nat} (h : Int) (hm : Bm w p a cap L) :
    Calls Tryd.prog 18 #[.pointer (some ⟨p, 0, none⟩), .int .i64 h] w (MOfE w (Bf L) h) := by
  have c0 := hm.tab.cell 0
  simp at c0
  obtain ⟨m, hmn⟩ : ∃ m, m = L.length := ⟨_, rfl⟩
  rw [← hmn] at c0
  have hm15 : m ≤ 15 := by have := hm.ok.few; omega
  have HN := Lib.hid hmn; clear hmn
  have HR := Lib.hid hm.slice
  have HL := Lib.hid hm.ok
  clear hm
  obtain ⟨Q, hQ⟩ : ∃ Q, Q = MOfE w (Bf L) h := ⟨_, rfl⟩
  rw [← hQ]
  have HQ := Lib.hid hQ; clear hQ
  have V0 : Hid (∀ (v4 v5 v6 : Value) (tm : Array Value), tm.getD 4 undef = v4 → tm.getD 5 undef = v5 → tm.getD 6 undef = v6 → (results Tryd.f18 tm).run Tryd.prog w = .ok (.tuple #[v4, v5, v6]) w) := Lib.hid (fun v4 v5 v6 tm h4 h5 h6 => by
    have h4' : tm[4]?.getD undef = v4 := by simpa using h4
    have h5' : tm[5]?.getD undef = v5 := by simpa using h5
    have h6' : tm[6]?.getD undef = v6 := by simpa using h6
    simp [results, Tryd.results18, go_sem, h4', h5', h6'])
  go_enter Tryd.func18, Tryd.ntmps18
  by_cases h1 : h < 0
  · have EH : Hid (Q (.returned (.tuple #[.int .i64 0, .int .i64 0, .bool false])) w) := Lib.hid (by rw [HQ.out]; exact ⟨rfl, .inl ⟨.inl h1, rfl⟩⟩)
    go_wp2
    refine bodyPost_ret (V0.out _ _ _ _ rfl rfl rfl) rfl ?_
    exact EH.out
  · by_cases h2 : 65536 ≤ h
    · have EH : Hid (Q (.returned (.tuple #[.int .i64 0, .int .i64 0, .bool false])) w) := Lib.hid (by rw [HQ.out]; exact ⟨rfl, .inl ⟨.inr (by omega), rfl⟩⟩)
      go_wp2
      refine bodyPost_ret (V0.out _ _ _ _ rfl rfl rfl) rfl ?_
      exact EH.out
    · obtain ⟨n, rfl⟩ : ∃ n : Nat, h = (n : Int) := ⟨h.toNat, by omega⟩
      have hn : n < 65536 := by omega
      go_wp2
      go_loop [4, 24] (fun u4 u24 => ∃ k : Nat, k ≤ m ∧ u24 = .int .i64 (k : Nat) ∧ u4 = .int .i64 (((0 :: L).getD k 0 : Nat) : Nat) ∧ Hid (∀ t, t < k → L.getD t 0 ≤ n)) (fun _ u24 => m - (intOf u24).toNat)
      case atStart => exact ⟨0, Nat.zero_le _, rfl, rfl, Lib.hid (fun t ht => by omega)⟩
      case round =>
        obtain ⟨k, hk, rfl, rfl, HJ⟩ := hrel
        by_cases hlt : k < m
        · have hlt' : (k : Int) < (m : Int) := by omega
          obtain ⟨b, off, rfl, p0⟩ := HR.out.at (i := k) (by have := HN.out; omega)
          have NX : Hid (L.getD k 0 ≤ n → ∀ t, t < k + 1 → L.getD t 0 ≤ n) := Lib.hid (fun hle t ht => by
            rcases Nat.eq_or_lt_of_le (Nat.le_of_lt_succ ht) with e | e
            · subst e; exact hle
            · exact HJ.out t e)
          have DONE : Hid (n < L.getD k 0 → Q (.returned (.tuple #[.int .i64 (((0 :: L).getD k 0 : Nat) : Nat), .int .i64 ((L.getD k 0 : Nat) : Nat), .bool true])) w) := Lib.hid (fun hg => by
            rw [HQ.out]
            exact ⟨rfl, .inr ⟨n, _, _, rfl, hn, ofP_next HL.out (by rw [← HN.out]; exact hlt) HJ.out hg, rfl⟩⟩)
          have GD : Hid ((0 :: L).getD (k + 1) 0 = L.getD k 0) := Lib.hid (by simp)
          obtain ⟨lo, hlo⟩ : ∃ lo, lo = (0 :: L).getD k 0 := ⟨_, rfl⟩
          rw [← hlo] at DONE ⊢
          obtain ⟨K, hK⟩ : ∃ K, K = L.getD k 0 := ⟨_, rfl⟩
          rw [← hK] at p0 NX DONE GD
          clear hlo hK
          by_cases hg : n < K
          · have hg' : (n : Int) < (K : Int) := by omega
            have EH := Lib.hid (DONE.out hg)
            clear hg
            go_wp2
            refine bodyPost_ret (V0.out _ _ _ _ rfl rfl rfl) rfl ?_
            exact EH.out
          · have hg' : ¬ ((n : Int) < (K : Int)) := by omega
            have NX2 := Lib.hid (NX.out (by omega))
            clear hg
            go_wp2
            go_round
            case rel => exact ⟨k + 1, by omega, by go_num, by rw [GD.out], NX2⟩
            case measure => simp [intOf]; omega
        · obtain rfl : k = m := by omega
          have EH : Hid (Q (.returned (.tuple #[.int .i64 (((0 :: L).getD k 0 : Nat) : Nat), .int .i64 65536, .bool true])) w) := Lib.hid (by
            rw [HQ.out]
            refine ⟨rfl, .inr ⟨n, _, 65536, rfl, hn, ?_, rfl⟩⟩
            have := ofP_last HL.out (fun t ht => HJ.out t (by rw [HN.out]; exact ht)) hn
            rwa [← HN.out] at this)
          obtain ⟨lo, hlo⟩ : ∃ lo, lo = (0 :: L).getD k 0 := ⟨_, rfl⟩
          rw [← hlo] at EH ⊢
          clear hlo
          go_wp2
          refine bodyPost_ret (V0.out _ _ _ _ rfl rfl rfl) rfl ?_
          exact EH.out
end Go.Proofs.YtbdgmpfdcmmfhaaDoor
