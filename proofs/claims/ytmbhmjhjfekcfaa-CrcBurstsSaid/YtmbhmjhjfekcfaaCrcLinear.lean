/- CrcLinear: for every three slices of bytes the law answers true and writes nothing that was there. No condition. -/
import Derived.Test.YtmbhmjhjfekcfaaCrcMoreLaw
import Derived.WalkLawsBesides
import Derived.Deep.QuietTactic
import Derived.BigQuiet
import Derived.BigRegion
import Derived.Deep.DeepCutAuto
import Derived.Outline
import Derived.Deep.RegionWith
namespace Go.Proofs.Ytmbhmjhjfekcfaa
open Go.RowKit

theorem set_row (X : List Nat) (n k : Nat) (hn : X.length = n) (hk : k < n) :
    (X.take k ++ List.replicate (n - k) 0).set k (X.getD k 0) = X.take (k + 1) ++ List.replicate (n - (k + 1)) 0 := by
  have hl : (X.take k).length = k := by simp; omega
  obtain ⟨m, hm⟩ : ∃ m, n - k = m + 1 := ⟨n - k - 1, by omega⟩
  rw [hm, List.replicate_succ, List.set_append_right _ _ (by omega), hl, Nat.sub_self, List.set_cons_zero, take_snoc_getD (by omega), List.append_assoc]
  rw [show n - (k + 1) = m by omega]; rfl
theorem Bytes.take {w : World} {a : Option Addr} {l : List Nat} (h : Bytes w a l) (n : Nat) : Bytes w a (l.take n) := by
  obtain ⟨h1, h2, h3⟩ := h
  refine ⟨take_lt h1 n, by simp; omega, ?_⟩
  rcases h3 with h | ⟨b, off, ha, hc⟩
  · left; simp [h]
  · right
    refine ⟨b, off, ha, fun i hi => ?_⟩
    have hi' : i < n ∧ i < l.length := by have : i < min n l.length := by simpa using hi
                                          omega
    rw [hc i hi'.2]
    congr 3
    simp [hi'.1, hi'.2]

theorem row_zero (X : List Nat) (n k : Nat) (hn : X.length = n) (hk : k < n) : ((X.take k ++ List.replicate (n - k) 0).map u8v)[k]? = some (u8v 0) := by
  have hl : (X.take k).length = k := by simp; omega
  rw [List.getElem?_map, List.getElem?_append_right (by omega), hl, Nat.sub_self, List.getElem?_replicate, if_pos (by omega)]; rfl
theorem Bytes.cellAt {w : World} {a : Option Addr} {l : List Nat} (h : Bytes w a l) {k : Nat} (hk : k < l.length) :
    ∃ b off, a = some ⟨b, off, none⟩ ∧ w.cell? ⟨b, off + k, none⟩ = some (.int .u8 (l.getD k 0 : Nat)) := by
  rcases h.2.2 with h | ⟨b, off, ha, hc⟩
  · rw [h] at hk; simp at hk
  · exact ⟨b, off, ha, hc k hk⟩

theorem Bytes.drewN {w : World} {a : Option Addr} {l : List Nat} (h : Bytes w a l) (n : Nat) : Bytes (w.drewN n) a l := h

theorem quiet_flip {P : Program} {f : FuncId} {args : Array Value} {w : World} {n : Nat} {v : Value}
    (h : Calls P f args (w.drewN n) fun e w' => e = .returned v ∧ w.drewN n = w') : Calls P f args (w.drewN n) fun e w'' => e = .returned v ∧ ∃ m, w'' = w.drewN m :=
  Calls.quiet_of_same (h.mono fun _ _ ⟨he, hm⟩ => ⟨he, hm.symm⟩)

theorem crcLinear_walk (a0 : Option Addr) (len0 cap0 : Nat) (z0 : List Int) (a1 : Option Addr) (len1 cap1 : Nat) (z1 : List Int) (a2 : Option Addr) (len2 cap2 : Nat) (z2 : List Int) (w : World) (w0 : RowIn .u8 w a0 len0 cap0 z0) (w1 : RowIn .u8 w a1 len1 cap1 z1) (w2 : RowIn .u8 w a2 len2 cap2 z2) :
    Calls Try.prog 6 #[.slice a0 len0 cap0, .slice a1 len1 cap1, .slice a2 len2 cap2] w fun e w' => e = .returned (.bool true) ∧ Below w.heap.size w w' := by
  obtain ⟨la, hn0, hl0⟩ := bytes_of_row w0
  obtain ⟨lb, hn1, hl1⟩ := bytes_of_row w1
  obtain ⟨lc, hn2, hl2⟩ := bytes_of_row w2
  have hnm0 : len0 ≤ 9223372036854775807 := by have := hl0.2.1; omega
  have hnm1 : len1 ≤ 9223372036854775807 := by have := hl1.2.1; omega
  have hnm2 : len2 ≤ 9223372036854775807 := by have := hl2.2.1; omega
  have hcp0 := row_cap w0
  have hcp1 := row_cap w1
  have hcp2 := row_cap w2
  clear w0 w1 w2
  have HN0 := Lib.hid hn0; clear hn0
  have HL0 := Lib.hid hl0; clear hl0
  have HN1 := Lib.hid hn1; clear hn1
  have HL1 := Lib.hid hl1; clear hl1
  have HN2 := Lib.hid hn2; clear hn2
  have HL2 := Lib.hid hl2; clear hl2
  obtain ⟨i0, hi, hz0, hz1, hz2⟩ := info_parts Try.infoU8
  have HI := Lib.hid hi; clear hi
  have HZ0 := Lib.hid hz0; clear hz0
  have HZ1 := Lib.hid hz1; clear hz1
  have HZ2 := Lib.hid hz2; clear hz2
  go_enter Try.func6, Try.ntmps6
  go_wp2_with fail
  refine (awake_any w).mono ?_
  rintro e w1 ⟨rfl, hb⟩
  go_upto_region 3 with fail
  go_cut [7] (fun v wx => wx = w1 ∧ ∃ n : Nat, n ≤ len0 ∧ n ≤ len1 ∧ n ≤ len2 ∧ v = .int .i64 n)
  case first =>
    rcases Nat.lt_or_ge len1 len0 with h1 | h1
    · rcases Nat.lt_or_ge len2 len1 with h2 | h2
      · go_wp2_with fail
        go_meet
        case rel => exact ⟨rfl, len2, by omega, by omega, by omega, rfl⟩
      · go_wp2_with fail
        go_meet
        case rel => exact ⟨rfl, len1, by omega, by omega, by omega, rfl⟩
    · rcases Nat.lt_or_ge len2 len0 with h2 | h2
      · go_wp2_with fail
        go_meet
        case rel => exact ⟨rfl, len2, by omega, by omega, by omega, rfl⟩
      · go_wp2_with fail
        go_meet
        case rel => exact ⟨rfl, len0, by omega, by omega, by omega, rfl⟩
  case rest =>
    obtain ⟨rfl, n, hn0, hn1, hn2, rfl⟩ := hcut
    by_cases h3 : 3000 < n
    · go_wp2_with fail
      go_ret
      exact ⟨rfl, hb⟩
    · have hbs := hb.size
      go_wp2_with (refine wpList_make_full wc rfl (.tmp 21) (.tmp 21) 22 rfl w.heap.size 5 i0 (.int .u8 0) 1 Try.underlying22 HI.out HZ0.out HZ1.out .i64 .i64 _ _ n rfl rfl rfl rfl ?b2 ?b3 ?b4 ?_)
      case b2 => rw [HZ2.out]; omega
      case b3 => unfold maxLen; omega
      case b4 => exact hbs
      intro w2 hown hg
      have hcells : (madeCells #[Value.int .u8 0] n).toList = (List.replicate n 0).map u8v := by
        rw [toList_madeCells_one]; simp [u8v]
      rw [hcells] at hown
      clear hcells
      have hb2 : Below w.heap.size w w2 := hb.grown hg hbs (fun k hk => by cases hk)
      clear hg
      obtain ⟨g, hgw⟩ : ∃ g, g = wc.heap.size := ⟨_, rfl⟩
      have hgB : w.heap.size ≤ g := by omega
      rw [← hgw] at hown ⊢
      clear hgw hbs
      obtain ⟨A, hA⟩ : ∃ A, A = la.take n := ⟨_, rfl⟩
      obtain ⟨B, hB⟩ : ∃ B, B = lb.take n := ⟨_, rfl⟩
      obtain ⟨C, hC⟩ : ∃ C, C = lc.take n := ⟨_, rfl⟩
      have hAl : A.length = n := by rw [hA]; have := HN0.out; simp; omega
      have hBl : B.length = n := by rw [hB]; have := HN1.out; simp; omega
      have hCl : C.length = n := by rw [hC]; have := HN2.out; simp; omega
      have HA : Bytes w a0 A := hA ▸ HL0.out.take n
      have HB : Bytes w a1 B := hB ▸ HL1.out.take n
      have HC : Bytes w a2 C := hC ▸ HL2.out.take n
      have HA := Lib.hid HA
      have HB := Lib.hid HB
      have HC := Lib.hid HC
      have HAl := Lib.hid hAl
      have HBl := Lib.hid hBl
      have HCl := Lib.hid hCl
      clear hA hB hC hAl hBl hCl
      obtain ⟨X, hX⟩ : ∃ X, X = xorL (xorL A B) C := ⟨_, rfl⟩
      have hXl : X.length = n := by rw [hX, xorL_length, xorL_length] <;> simp [HAl.out, HBl.out, HCl.out, xorL_length]
      have HX := Lib.hid hX
      have HXl := Lib.hid hXl
      clear hX hXl
      have hown : w2.ownsRow w.heap.size 5 1 (.slice (some ⟨g, 0, none⟩) n n) n ((X.take 0 ++ List.replicate (n - 0) 0).map u8v) := by simpa using hown
      go_wp2_with fail
      go_loopw [9, 25] (fun _ i wr => ∃ k : Nat, k ≤ n ∧ i = .int .i64 k ∧ wr.ownsRow w.heap.size 5 1 (.slice (some ⟨g, 0, none⟩) n n) n ((X.take k ++ List.replicate (n - k) 0).map u8v) ∧ Below w.heap.size w wr) (fun _ i _ => n - (intOf i).toNat)
      case atStart => exact ⟨0, Nat.zero_le _, rfl, hown, hb2⟩
      case round =>
        obtain ⟨k, hk, rfl, hown, hbr⟩ := hrel
        by_cases hlt : k < n
        · have hA8 := getD_lt HA.out.1 k
          have hB8 := getD_lt HB.out.1 k
          have hC8 := getD_lt HC.out.1 k
          obtain ⟨b0, o0, rfl, ha⟩ := (HA.out.later hbr).cellAt (k := k) (by rw [HAl.out]; exact hlt)
          obtain ⟨b1, o1, rfl, hbb⟩ := (HB.out.later hbr).cellAt (k := k) (by rw [HBl.out]; exact hlt)
          obtain ⟨b2, o2, rfl, hc⟩ := (HC.out.later hbr).cellAt (k := k) (by rw [HCl.out]; exact hlt)
          have hXk : X.getD k 0 = A.getD k 0 ^^^ B.getD k 0 ^^^ C.getD k 0 := by
            rw [HX.out, xorL_getD _ _ _ (by rw [xorL_length] <;> rw [HAl.out] <;> first | rw [HCl.out] | rw [HBl.out]), xorL_getD _ _ _ (by rw [HAl.out, HBl.out])]
          obtain ⟨p, hp⟩ : ∃ p, p = A.getD k 0 := ⟨_, rfl⟩
          obtain ⟨q, hq⟩ : ∃ q, q = B.getD k 0 := ⟨_, rfl⟩
          obtain ⟨r, hr⟩ : ∃ r, r = C.getD k 0 := ⟨_, rfl⟩
          rw [← hp, ← hq, ← hr] at hXk
          rw [← hp] at hA8 ha
          rw [← hq] at hB8 hbb
          rw [← hr] at hC8 hc
          clear hp hq hr
          have HXk := Lib.hid hXk
          clear hXk
          have hpq := u8_xor_nat p q hA8 hB8
          have hpqr := u8_xor_nat (p ^^^ q) r (Nat.xor_lt_two_pow (n := 8) hA8 hB8) hC8
          have hg0 : wr.cell? ⟨g, k, none⟩ = some (u8v 0) := by
            rw [hown.cellAt k (by omega)]
            exact row_zero X n k HXl.out hlt
          have hgf : wr.frozen? ⟨g, k, none⟩ = false := hown.frozenAt k
          have hst := (hown.stored k (u8v (X.getD k 0))).1
          have hbs := hbr.setCell (p := ⟨g, k, none⟩) hgB (u8v (X.getD k 0))
          rw [HXk.out] at hst hbs
          have hst : (wr.setCell ⟨g, k, none⟩ (.int .u8 ((p ^^^ q ^^^ r : Nat) : Int))).ownsRow w.heap.size 5 1 (.slice (some ⟨g, 0, none⟩) n n) n ((X.take (k + 1) ++ List.replicate (n - (k + 1)) 0).map u8v) := by
            rw [← set_row X n k HXl.out hlt, List.map_set, HXk.out]; exact hst
          have HST := Lib.hid hst
          have HBS := Lib.hid hbs
          clear hst hbs
          have hi0 : (k : Int) < len0 := by omega
          have hi1 : (k : Int) < len1 := by omega
          have hi2 : (k : Int) < len2 := by omega
          have hin : (k : Int) < n := by omega
          unfold u8v at hg0
          go_wp2_with fail
          go_region
          all_goals go_wp2_with fail
          go_roundw
          case rel => exact ⟨k + 1, by omega, by go_num, HST.out.drew, HBS.out.drew⟩
          case measure => simp [intOf]; omega
        · obtain rfl : k = n := by omega
          have hX8 : ∀ c ∈ X, c < 256 := by
            rw [HX.out]; exact xorL_lt _ _ (xorL_lt _ _ HA.out.1 HB.out.1) HC.out.1
          have hrow : (X.take k ++ List.replicate (k - k) 0) = X := by
            rw [Nat.sub_self, List.replicate_zero, List.append_nil, List.take_of_length_le (by rw [HXl.out]; exact Nat.le_refl _)]
          rw [hrow] at hown
          have hXb := (bytes_of_own hown hX8).2.1
          have HXb := Lib.hid hXb
          clear hXb hrow hX8 hown hlt
          have hs := sum_linear A B C (by rw [HAl.out, HBl.out]) (by rw [HBl.out, HCl.out])
          rw [← HX.out] at hs
          obtain ⟨sa, hsa⟩ : ∃ sa, sumN A = sa := ⟨_, rfl⟩
          obtain ⟨sb, hsb⟩ : ∃ sb, sumN B = sb := ⟨_, rfl⟩
          obtain ⟨sc, hsc⟩ : ∃ sc, sumN C = sc := ⟨_, rfl⟩
          have ha4 := sumN_lt HA.out.1
          have hb4 := sumN_lt HB.out.1
          have hc4 := sumN_lt HC.out.1
          rw [hsa] at hs ha4
          rw [hsb] at hs hb4
          rw [hsc] at hs hc4
          have hkc0 : (k : Int) ≤ cap0 := by omega
          have hkc1 : (k : Int) ≤ cap1 := by omega
          have hkc2 : (k : Int) ≤ cap2 := by omega
          have hk0 : (0 : Int) ≤ k := by omega
          have hxab := u32_xor_nat sa sb ha4 hb4
          have hxabc := u32_xor_nat (sa ^^^ sb) sc (xor_lt ha4 hb4) hc4
          have HS := Lib.hid hs; clear hs
          have HSA := Lib.hid hsa; clear hsa
          have HSB := Lib.hid hsb; clear hsb
          have HSC := Lib.hid hsc; clear hsc
          go_wp2_with fail
          go_quiet ((first | (go_at_call_of 8 (Value.slice (some ⟨g, 0, none⟩) k k); exact quiet_flip (sum_eq _ _ _ X _ _ HS.out (HXb.out.drewN _) HXl.out.symm)) | (go_at_call_of 8 (Value.slice a0 k cap0); exact quiet_flip (sum_eq _ _ _ A _ _ HSA.out ((HA.out.later hbr).drewN _) HAl.out.symm)) | (go_at_call_of 8 (Value.slice a1 k cap1); exact quiet_flip (sum_eq _ _ _ B _ _ HSB.out ((HB.out.later hbr).drewN _) HBl.out.symm)) | (go_at_call_of 8 (Value.slice a2 k cap2); exact quiet_flip (sum_eq _ _ _ C _ _ HSC.out ((HC.out.later hbr).drewN _) HCl.out.symm))))
          go_wp2_with fail
          go_ret
          exact ⟨rfl, below_drewN hbr _⟩
end Go.Proofs.Ytmbhmjhjfekcfaa
