/- Contracts of slices.BinarySearchFunc over the tree's nodes, of find, of unwanted. -/
import Derived.Test.YtchhbmhnjknhaaaTrBase
namespace Go.Proofs.Ytchhbmhnjknhaaa
open Go.RowKit

theorem nds_at1 {L : List Nx} {i : Nat} : ((nds L).getD i default).k = (L.getD i default).t.k := by rw [nds_getD]

set_option maxRecDepth 100000 in
set_option maxHeartbeats 2000000 in
theorem bsearch_any {w : World} {B p : Nat} {F : List Nat} {a : Option Addr} {cap : Nat} {L : List Nx} {qs : List Nat} (s : ByteArray) (h : Pt w B p F a cap L qs) (hs : Srt (nds L)) (n : Nat) (hn : n = L.length) :
    Calls Try.prog 46 #[.slice a n cap, .string s, .func (.func 47) #[] #[]] w
      fun e w' => e = .returned (.tuple #[.int .i64 (ixN (nds L) s : Nat), .bool (isN (nds L) s)]) ∧ w = w' := by
  have hn256 : n ≤ 256 := by rw [hn]; exact h.few
  have HH := Lib.hid h; clear h
  have HS := Lib.hid hs; clear hs
  have HN := Lib.hid hn; clear hn
  obtain ⟨I, hI⟩ : ∃ I, I = ixN (nds L) s := ⟨_, rfl⟩
  obtain ⟨bb, hbb⟩ : ∃ bb, bb = isN (nds L) s := ⟨_, rfl⟩
  rw [← hI, ← hbb]
  have HI := Lib.hid hI; clear hI
  have HBB := Lib.hid hbb; clear hbb
  go_enter Try.func46, Try.ntmps46
  go_wp2
  go_loop [9, 10] (fun s5 s6 => ∃ lo hi : Nat, s5 = .int .i64 lo ∧ s6 = .int .i64 hi ∧ lo ≤ hi ∧ hi ≤ n ∧ Hid (∀ t, t < lo → kl ((nds L).getD t default).k s = true) ∧ Hid (∀ t, hi ≤ t → t < n → kl ((nds L).getD t default).k s = false)) (fun s5 s6 => ((intOf s6).toNat - (intOf s5).toNat))
  case atStart => exact ⟨0, n, rfl, rfl, Nat.zero_le _, Nat.le_refl _, Lib.hid (fun t ht => absurd ht (Nat.not_lt_zero _)), Lib.hid (fun t h1 h2 => by omega)⟩
  case round =>
    obtain ⟨lo, hi, rfl, rfl, hlh, hin, HA, HB⟩ := hrel
    by_cases hlt : lo < hi
    · obtain ⟨m, hm⟩ : ∃ m, m = (lo + hi) / 2 := ⟨_, rfl⟩
      have hm1 : lo ≤ m := by omega
      have hm2 : m < hi := by omega
      have hmi : ((lo : Int) + (hi : Int)) / 2 = (m : Int) := by omega
      obtain ⟨b, off, q, rfl, p0, hq, p1, _⟩ := HH.out.at (i := m) (by have := HN.out; omega)
      have hk := nds_at1 (L := L) (i := m)
      generalize (L.getD m default).t.k = K at p1 hk
      have HK := Lib.hid hk; clear hk hq
      have hC := Lib.hid (cmp_any q K s w p1)
      have hc2 : decide (Lib.compareBytes K.data.toList s.data.toList < 0) = kl K s := by rw [cmp_lt, kl_data]
      obtain ⟨c, hc⟩ : ∃ c, c = Lib.compareBytes K.data.toList s.data.toList := ⟨_, rfl⟩
      rw [← hc] at hC hc2
      clear hc
      cases hkl : kl K s <;> rw [hkl] at hc2
      · have HKL := Lib.hid hkl
        clear hkl hm
        go_wp2_with ((with_reducible refine hC.out.mono ?_); rintro e w' ⟨rfl, rfl⟩)
        go_round
        case rel => exact ⟨lo, m, rfl, rfl, by omega, by omega, HA, Lib.hid (fun t h1 h2 => by
            rcases Nat.lt_or_ge m t with h3 | h3
            · have := HS.out.at h3 (by rw [nds_len', ← HN.out]; exact h2)
              rw [HK.out] at this
              exact kl_le HKL.out this
            · have : t = m := by omega
              subst this; rw [HK.out]; exact HKL.out)⟩
        case measure => simp [intOf]; omega
      · have HKL := Lib.hid hkl
        clear hkl hm
        go_wp2_with ((with_reducible refine hC.out.mono ?_); rintro e w' ⟨rfl, rfl⟩)
        go_round
        case rel => exact ⟨m + 1, hi, by go_num, rfl, by omega, hin, Lib.hid (fun t h1 => by
            rcases Nat.lt_or_ge t m with h3 | h3
            · have := HS.out.at h3 (by rw [nds_len', ← HN.out]; omega)
              rw [HK.out] at this
              exact kl_trans this HKL.out
            · have : t = m := by omega
              subst this; rw [HK.out]; exact HKL.out), HB⟩
        case measure => simp [intOf]; omega
    · obtain rfl : hi = lo := by omega
      have hix : ixN (nds L) s = hi := ixN_of (by rw [nds_len', ← HN.out]; exact hin) HA.out (by rw [nds_len', ← HN.out]; exact HB.out)
      by_cases hlt2 : hi < n
      · obtain ⟨b, off, q, rfl, p0, hq, p1, _⟩ := HH.out.at (i := hi) (by have := HN.out; omega)
        have hk := nds_at1 (L := L) (i := hi)
        have his : isN (nds L) s = decide ((L.getD hi default).t.k = s) := by
          unfold isN
          rw [hix, hk, nds_len', ← HN.out, decide_eq_true hlt2, Bool.true_and]
        generalize (L.getD hi default).t.k = K at p1 hk his
        have hC := Lib.hid (cmp_any q K s w p1)
        have hc2 : (Lib.compareBytes K.data.toList s.data.toList == 0) = isN (nds L) s := by rw [cmp_eq0, his, ← txt_eq, Lib.toList_data, Lib.toList_data]
        obtain ⟨c, hc⟩ : ∃ c, c = Lib.compareBytes K.data.toList s.data.toList := ⟨_, rfl⟩
        rw [← hc] at hC hc2
        rw [← HBB.out] at hc2
        have hlt3 : (hi : Int) < (n : Int) := by omega
        obtain rfl : I = hi := HI.out.trans hix
        clear hc hk his hix hq HA HB
        go_wp2_with ((with_reducible refine hC.out.mono ?_); rintro e w' ⟨rfl, rfl⟩)
        go_ret2
        exact ⟨rfl, rfl⟩
      · have his : isN (nds L) s = false := by
          unfold isN
          rw [hix, nds_len', ← HN.out, decide_eq_false hlt2, Bool.false_and]
        obtain rfl : I = hi := HI.out.trans hix
        obtain rfl : bb = false := HBB.out.trans his
        clear hix HA HB his
        go_wp2
        go_ret2
        exact ⟨rfl, rfl⟩

set_option maxRecDepth 100000 in
set_option maxHeartbeats 1000000 in
theorem find_any {w : World} {B p : Nat} {F : List Nat} {a : Option Addr} {cap : Nat} {L : List Nx} {qs : List Nat} (s : ByteArray) (h : Pt w B p F a cap L qs) (hs : Srt (nds L)) :
    Calls Try.prog 30 #[.pointer (some ⟨p, 0, none⟩), .string s] w fun e w' => e = .returned (.tuple #[.int .i64 (ixN (nds L) s : Nat), .bool (isN (nds L) s)]) ∧ w = w' := by
  have c0 := h.tree.cell 0
  simp at c0
  obtain ⟨n, hn⟩ : ∃ n, n = L.length := ⟨_, rfl⟩
  rw [← hn] at c0
  have hB := Lib.hid (bsearch_any s h hs n hn)
  clear h hs hn
  go_enter Try.func30, Try.ntmps30
  go_wp2_with ((with_reducible refine hB.out.mono ?_); rintro e w' ⟨rfl, rfl⟩)
  go_ret2
  exact ⟨rfl, rfl⟩

/-- Which error Put answers where the lengths are right (0: none). -/
def unwC (L : List Nd) (s : ByteArray) (want : Nat) : Nat :=
  if isN L s = true then (if want = 0 then 12 else if (L.getD (ixN L s) default).ver ≠ want then 13 else 0) else if want ≠ 0 then 11 else if 256 ≤ L.length then 14 else 0

set_option maxRecDepth 100000 in
set_option maxHeartbeats 1000000 in
theorem unwanted_any {w : World} {B p : Nat} {F : List Nat} {a : Option Addr} {cap : Nat} {L : List Nx} {qs : List Nat} (s : ByteArray) (want : Nat) (h : Pt w B p F a cap L qs) :
    Calls Try.prog 31 #[.pointer (some ⟨p, 0, none⟩), .int .i64 (ixN (nds L) s : Nat), .bool (isN (nds L) s), .int .u64 (want : Nat)] w fun e w' => e = .returned (.int .i64 (unwC (nds L) s want : Nat)) ∧ w = w' := by
  have c0 := h.tree.cell 0
  simp at c0
  have hfew := h.few
  unfold unwC
  cases his : isN (nds L) s
  · rw [if_neg (by simp), nds_len']
    generalize ixN (nds L) s = i
    obtain ⟨n, hn⟩ : ∃ n, n = L.length := ⟨_, rfl⟩
    rw [← hn] at c0 hfew ⊢
    clear h his hn
    by_cases h1 : want ≠ 0
    · rw [if_pos h1]
      have h2 : ((want : Int) != 0) = true := by rw [bne_iff_ne]; omega
      clear h1
      go_enter Try.func31, Try.ntmps31
      go_wp2
      go_ret
      exact ⟨rfl, rfl⟩
    · rw [if_neg h1]
      obtain rfl : want = 0 := by omega
      by_cases h3 : 256 ≤ n
      · rw [if_pos h3]
        go_enter Try.func31, Try.ntmps31
        go_wp2
        go_ret
        exact ⟨rfl, rfl⟩
      · rw [if_neg h3]
        go_enter Try.func31, Try.ntmps31
        go_wp2
        go_ret
        exact ⟨rfl, rfl⟩
  · rw [if_pos rfl]
    have hlt : ixN (nds L) s < L.length := by
      obtain ⟨_, _, _, _, h4⟩ := isN_split his
      rwa [nds_len'] at h4
    obtain ⟨b, off, q, rfl, p0, hq, p1, p2, p3, p4, _⟩ := h.at hlt
    have hv : ((nds L).getD (ixN (nds L) s) default).ver = (L.getD (ixN (nds L) s) default).t.ver := by rw [nds_getD]
    rw [hv]
    generalize (L.getD (ixN (nds L) s) default).t.ver = ver at p3
    generalize ixN (nds L) s = i at p0 hlt
    obtain ⟨n, hn⟩ : ∃ n, n = L.length := ⟨_, rfl⟩
    rw [← hn] at c0 hfew hlt
    clear h his hn hq p1 p2 p4 hv
    by_cases h1 : want = 0
    · rw [if_pos h1]
      subst h1
      go_enter Try.func31, Try.ntmps31
      go_wp2
      go_ret
      exact ⟨rfl, rfl⟩
    · rw [if_neg h1]
      have h2 : ((want : Int) == 0) = false := by rw [beq_eq_false_iff_ne]; omega
      by_cases h3 : ver ≠ want
      · rw [if_pos h3]
        have h4 : ((ver : Int) != (want : Int)) = true := by rw [bne_iff_ne]; omega
        clear h1 h3
        go_enter Try.func31, Try.ntmps31
        go_wp2
        go_ret
        exact ⟨rfl, rfl⟩
      · rw [if_neg h3]
        obtain rfl : ver = want := by omega
        clear h1 h3
        go_enter Try.func31, Try.ntmps31
        go_wp2
        go_ret
        exact ⟨rfl, rfl⟩
end Go.Proofs.Ytchhbmhnjknhaaa
