/- CrcBursts: for every slice of bytes, every place and every word the law answers true and writes nothing that was there. No condition. -/
import Derived.Test.YtmbhmjhjfekcfaaCrcLinear
import Derived.Test.YtmbhmjhjfekcfaaCrcBurstMath
namespace Go.Proofs.Ytmbhmjhjfekcfaa
open Go.RowKit

theorem le4_bytes (w : World) (s : Nat) (hs : s < 4294967296) : Bytes (w.alloc (.cells #[.int .u8 ((s : Int) % 256), .int .u8 ((s : Int) / 256 % 256), .int .u8 ((s : Int) / 65536 % 256), .int .u8 ((s : Int) / 16777216)] 5)) (some ⟨w.heap.size, 0, none⟩) (le4 s) := by
  refine ⟨?_, by simp [le4], .inr ⟨_, _, rfl, ?_⟩⟩
  · intro c hc
    simp only [le4, List.mem_cons, List.not_mem_nil, or_false] at hc
    rcases hc with rfl | rfl | rfl | rfl <;> omega
  · intro i hi
    simp [le4] at hi
    simp only [World.cell?, World.alloc, Array.getElem?_push]
    match i, hi with
    | 0, _ | 1, _ | 2, _ | 3, _ => simp [le4]
theorem start_place (a : Int) (m : Nat) (hm : 0 < m) (hb : m ≤ 9223372036854775807) : ∃ k : Nat, wrap64 ((IntKind.u64.wrap a).tmod m) = (k : Int) ∧ k < m := by
  have h0 : 0 ≤ IntKind.u64.wrap a := wrap_u64_nonneg a
  have h1 : 0 ≤ (IntKind.u64.wrap a).tmod m := Int.tmod_nonneg _ h0
  have h2 : (IntKind.u64.wrap a).tmod m < m := Int.tmod_lt_of_pos _ (by omega)
  refine ⟨((IntKind.u64.wrap a).tmod m).toNat, ?_, by omega⟩
  rw [IntWalk.wrap64_in _ ⟨by omega, by omega⟩]
  omega
theorem bit_yes {word m : Nat} (hw : word < 4294967296) (h : word.testBit m = true) : (bits .and .u32 ((word : Int) / 2 ^ m) 1 == 1) = true := by
  have e : ((word : Int) / 2 ^ m) = ((word / 2 ^ m : Nat) : Int) := by simp
  rw [e]
  rw [Nat.testBit_eq_decide_div_mod_eq] at h
  exact odd_test (Nat.lt_of_le_of_lt (Nat.div_le_self _ _) hw) (by simpa using h)
theorem bit_no {word m : Nat} (hw : word < 4294967296) (h : word.testBit m = false) : (bits .and .u32 ((word : Int) / 2 ^ m) 1 == 1) = false := by
  have e : ((word : Int) / 2 ^ m) = ((word / 2 ^ m : Nat) : Int) := by simp
  rw [e]
  rw [Nat.testBit_eq_decide_div_mod_eq] at h
  have h2 := Nat.mod_two_eq_zero_or_one (word / 2 ^ m)
  have h3 : ¬ word / 2 ^ m % 2 = 1 := by simpa using h
  exact even_test (Nat.lt_of_le_of_lt (Nat.div_le_self _ _) hw) (by omega)
theorem flip_val (x t : Nat) (hx : x < 256) (ht : t < 8) : bits .xor .u8 (x : Int) ((2 : Int) ^ t % 256) = ((x ^^^ 2 ^ t : Nat) : Int) := by
  have h2 : 2 ^ t < 256 := Nat.pow_lt_pow_right (by omega) (by omega : t < 8)
  have e : ((2 : Int) ^ t % 256) = ((2 ^ t : Nat) : Int) := by
    have : ((2 : Int) ^ t) = ((2 ^ t : Nat) : Int) := by simp
    rw [this]; exact Int.emod_eq_of_lt (Int.natCast_nonneg _) (Int.ofNat_lt.2 h2)
  rw [e]
  exact u8_xor_nat x _ hx h2

theorem told_val (a b c d : Nat) (ha : a < 256) (hb : b < 256) (hc : c < 256) (hd : d < 256) :
    bits .or .u32 (bits .or .u32 (bits .or .u32 (a : Int) ((b : Int) * 256)) ((c : Int) * 65536)) ((d : Int) * 16777216) = ((told4 a b c d : Nat) : Int) := by
  have e1 : ((b : Int) * 256) = ((b * 256 : Nat) : Int) := by omega
  have e2 : ((c : Int) * 65536) = ((c * 65536 : Nat) : Int) := by omega
  have e3 : ((d : Int) * 16777216) = ((d * 16777216 : Nat) : Int) := by omega
  have j1 : a ||| b * 256 = b * 256 + a := by rw [Nat.or_comm]; exact nat_join 8 _ _ (by omega) (by omega)
  have j2 : (b * 256 + a) ||| c * 65536 = c * 65536 + (b * 256 + a) := by rw [Nat.or_comm]; exact nat_join 16 _ _ (by omega) (by omega)
  have j3 : (c * 65536 + (b * 256 + a)) ||| d * 16777216 = d * 16777216 + (c * 65536 + (b * 256 + a)) := by rw [Nat.or_comm]; exact nat_join 24 _ _ (by omega) (by omega)
  rw [e1, e2, e3, u32_or_nat _ _ (by omega) (by omega), j1, u32_or_nat _ _ (by omega) (by omega), j2, u32_or_nat _ _ (by omega) (by omega), j3]
  unfold told4
  omega

theorem crcBursts_walk (a0 : Option Addr) (len0 cap0 : Nat) (z0 : List Int) (a1 : Int) (a2 : Int) (w : World) (w0 : RowIn .u8 w a0 len0 cap0 z0) (_w1 : (Lit.int .i64 a1).wf = true) (w2 : (Lit.int .u32 a2).wf = true) :
    Calls Try.prog 5 #[.slice a0 len0 cap0, .int .i64 a1, .int .u32 a2] w fun e w' => e = .returned (.bool true) ∧ Below w.heap.size w w' := by
  obtain ⟨lb, hn0, hl0⟩ := bytes_of_row w0
  obtain ⟨word, rfl, hword⟩ := nat_of_u32 w2
  have hnm0 : len0 ≤ 9223372036854775807 := by have := hl0.2.1; omega
  have HC0 := Lib.hid (row_nil w0)
  clear w0 w2
  have HN0 := Lib.hid hn0; clear hn0
  have HL0 := Lib.hid hl0; clear hl0
  obtain ⟨i0, hi, hz0, hz1, hz2⟩ := info_parts Try.infoU8
  have HI := Lib.hid hi; clear hi
  have HZ0 := Lib.hid hz0; clear hz0
  have HZ1 := Lib.hid hz1; clear hz1
  have HZ2 := Lib.hid hz2; clear hz2
  by_cases h3 : 3000 < len0
  · go_enter Try.func5, Try.ntmps5
    go_wp2_with fail
    refine (awake_any w).mono ?_
    rintro e w1 ⟨rfl, hb⟩
    go_wp2_with fail
    go_ret
    exact ⟨rfl, hb⟩
  by_cases hw0 : word = 0
  · subst hw0
    go_enter Try.func5, Try.ntmps5
    go_wp2_with fail
    refine (awake_any w).mono ?_
    rintro e w1 ⟨rfl, hb⟩
    go_wp2_with fail
    go_ret
    exact ⟨rfl, hb⟩
  have hw1 : ((word : Int) == 0) = false := by simp; omega
  have hs := sumN_lt HL0.out.1
  obtain ⟨s, hsn⟩ : ∃ s, sumN lb = s := ⟨_, rfl⟩
  rw [hsn] at hs
  have HS := Lib.hid hsn; clear hsn
  go_enter Try.func5, Try.ntmps5
  go_wp2_with fail
  refine (awake_any w).mono ?_
  rintro e w1 ⟨rfl, hb⟩
  go_wp2_with fail
  refine (sum_eq _ _ _ lb _ _ HS.out (HL0.out.later hb) HN0.out).mono ?_
  rintro e w' ⟨rfl, rfl⟩
  go_wp2_with (at_builtin; refine wpList_append_bytes rfl (.tmp 26) (.tmp 27) 22 rfl w.heap.size 5 i0 Try.underlying22 HI.out HZ0.out HZ1.out HZ2.out _ 0 [] rfl ?own1 _ _ _ lb rfl ?b1 HN0.out HC0.out ?fit1 ?base1 ?_)
  case own1 => exact World.ownsRow_lit w1 #[] 0 hb.size (by unfold maxLen; omega) rfl
  case b1 => exact HL0.out.later (hb.alloc hb.size _)
  case fit1 => omega
  case base1 => have := hb.size; simp; omega
  intro a2 cap2 w2 hown2 hg2
  have hb2 : Below w.heap.size w w2 := (hb.alloc hb.size _).grown hg2 (by have := hb.size; simp; omega) (fun k hk => by have := hb.size; simp [Value.ownBlock] at hk; omega)
  clear hg2
  have hbs := hb2.size
  go_wp2_with (at_builtin; refine wpList_append_bytes rfl (.tmp 28) (.tmp 40) 22 rfl w.heap.size 5 i0 Try.underlying22 HI.out HZ0.out HZ1.out HZ2.out _ len0 _ rfl (hown2.alloc _) _ _ _ (le4 s) rfl ?b2 rfl ?nil2 ?fit2 ?base2 ?_)
  case nil2 => intro h; cases h
  case fit2 => omega
  case base2 => simp; omega
  case b2 => exact le4_bytes w2 s hs
  intro a3 cap3 w3 hown3 hg3
  have hb3 : Below w.heap.size w w3 := hb2.alloc hbs _ |>.grown hg3 (by simp; omega) (fun k hk => (hown2.lt k hk).1)
  have hl8 : ∀ c ∈ lb ++ le4 s, c < 256 := by
    intro c hc
    rcases List.mem_append.1 hc with h | h
    · exact HL0.out.1 c h
    · exact (le4_bytes w2 s hs).1 c h
  rw [← List.map_append] at hown3
  obtain ⟨g, rfl⟩ : ∃ g, a3 = some ⟨g, 0, none⟩ := by
    rcases hown3.2 with ⟨h, h'⟩ | ⟨g, cap', cur, h, _⟩
    · omega
    · simp only [Value.slice.injEq] at h; exact ⟨g, h.1⟩
  have hgB : w.heap.size ≤ g := (hown3.lt g rfl).1
  have hcap3 : len0 + 4 ≤ cap3 := by
    rcases hown3.2 with ⟨h, h'⟩ | ⟨g', cap', cur, h, _, _, hnc, _⟩
    · omega
    · simp only [Value.slice.injEq] at h; omega
  clear hg3 hown2 hb2 hbs
  obtain ⟨k, hk, hklt⟩ := start_place a1 (8 * (len0 + 4)) (by omega) (by omega)
  have hk : wrap64 ((IntKind.u64.wrap a1).tmod (8 * ((len0 : Int) + 4))) = (k : Int) := by
    rw [← hk]; congr 2
  go_wp2_with fail
  simp only [hk]
  clear hk
  obtain ⟨N, hN⟩ : ∃ N, N = len0 + 4 := ⟨_, rfl⟩
  have HB8 := Lib.hid hl8
  clear hl8
  have hstart : w3.ownsRow w.heap.size 5 1 (.slice (some ⟨g, 0, none⟩) (len0 + 4) cap3) (len0 + 4) ((turnedRow (lb ++ le4 s) (laid k word 0) (len0 + 4)).map u8v) := by
    rw [turned_start _ _ _ _ (by rw [List.length_append, HN0.out]; rfl)]; exact hown3
  go_loopw [10, 50] (fun t i wr => ∃ m : Nat, m ≤ 32 ∧ i = .int .i64 m ∧ t = .bool (turnedBy k word (8 * (len0 + 4)) m) ∧ wr.ownsRow w.heap.size 5 1 (.slice (some ⟨g, 0, none⟩) (len0 + 4) cap3) (len0 + 4) ((turnedRow (lb ++ le4 s) (laid k word m) (len0 + 4)).map u8v) ∧ Below w.heap.size w wr) (fun _ i _ => 32 - (intOf i).toNat)
  case atStart => exact ⟨0, Nat.zero_le _, rfl, rfl, hstart, hb3⟩
  case round =>
    obtain ⟨m, hm, rfl, rfl, hown, hbr⟩ := hrel
    clear hstart hown3
    by_cases hlt : m < 32
    · cases hbit : word.testBit m with
      | false =>
        have hno := bit_no hword hbit
        have HBIT := Lib.hid hbit; clear hbit
        go_wp2_with fail
        go_roundw
        case rel => exact ⟨m + 1, by omega, by go_num, by simp [turnedBy, HBIT.out], by rw [turned_no _ _ _ _ _ (.inl HBIT.out)]; exact hown, hbr⟩
        case measure => simp [intOf]; omega
      | true =>
        have hyes := bit_yes hword hbit
        have HBIT := Lib.hid hbit; clear hbit
        by_cases hin : k + m < 8 * (len0 + 4)
        · have hc := hown.cellAt ((k + m) / 8) (by omega)
          rw [getD_map_u8v (by unfold turnedRow; simp; omega)] at hc
          have hf := hown.frozenAt ((k + m) / 8)
          obtain ⟨x, hx⟩ : ∃ x, x = (turnedRow (lb ++ le4 s) (laid k word m) (len0 + 4)).getD ((k + m) / 8) 0 := ⟨_, rfl⟩
          rw [← hx] at hc
          unfold u8v at hc
          have HX := Lib.hid hx; clear hx
          go_wp2_with fail
          go_region
          all_goals go_wp2_with fail
          have hx8 : x < 256 := by
            rw [HX.out]; exact getD_lt (turnedRow_lt _ _ _ HB8.out) _
          rw [flip_val x _ hx8 (by omega)]
          have hst := (hown.stored ((k + m) / 8) (u8v (x ^^^ 2 ^ ((k + m) % 8)))).1
          rw [← List.map_set, HX.out, ← turned_yes _ _ _ _ _ HBIT.out hin, ← HX.out] at hst
          go_roundw
          case rel => exact ⟨m + 1, by omega, by go_num, by simp [turnedBy, HBIT.out, hin], hst.drew, (hbr.setCell (p := ⟨g, (k + m) / 8, none⟩) hgB _).drew⟩
          case measure => simp [intOf]; omega
        · go_wp2_with fail
          go_roundw
          case rel => exact ⟨m + 1, by omega, by go_num, by simp [turnedBy, hin], by rw [turned_no _ _ _ _ _ (.inr (by omega))]; exact hown, hbr⟩
          case measure => simp [intOf]; omega
    · obtain rfl : m = 32 := by omega
      obtain ⟨T, hT⟩ : ∃ T, T = turnedRow (lb ++ le4 s) (laid k word 32) (len0 + 4) := ⟨_, rfl⟩
      have hT8 : ∀ c ∈ T, c < 256 := by rw [hT]; exact turnedRow_lt _ _ _ HB8.out
      have hTl : T.length = len0 + 4 := by rw [hT]; exact turnedRow_length _ _ _
      have hfin := burst lb len0 k word HN0.out HL0.out.1 (by omega)
      rw [HS.out, ← hT, ← turnedBy_false k word (8 * (len0 + 4)) 32] at hfin
      rw [← hT] at hown
      have c0 := hown.cellAt len0 (by omega)
      have c1 := hown.cellAt (len0 + 1) (by omega)
      have c2 := hown.cellAt (len0 + 2) (by omega)
      have c3 := hown.cellAt (len0 + 3) (by omega)
      rw [getD_map_u8v (by omega)] at c0 c1 c2 c3
      have b0 := getD_lt hT8 len0
      have b1 := getD_lt hT8 (len0 + 1)
      have b2 := getD_lt hT8 (len0 + 2)
      have b3 := getD_lt hT8 (len0 + 3)
      have hbt := (bytes_of_own hown hT8).2.1.take len0
      have htl : len0 = (T.take len0).length := by simp [hTl]
      generalize T.getD len0 0 = y0 at *
      generalize T.getD (len0 + 1) 0 = y1 at *
      generalize T.getD (len0 + 2) 0 = y2 at *
      generalize T.getD (len0 + 3) 0 = y3 at *
      unfold u8v at c0 c1 c2 c3
      have HT := Lib.hid hbt
      have HTL := Lib.hid htl
      have HF := Lib.hid hfin
      clear hT hT8 hTl hfin hbt htl hown
      obtain ⟨tb, htb⟩ : ∃ tb, tb = turnedBy k word (8 * (len0 + 4)) 32 := ⟨_, rfl⟩
      rw [← htb]
      have HTB := Lib.hid htb
      clear htb
      have htold := told_val y0 y1 y2 y3 b0 b1 b2 b3
      obtain ⟨tt, htt⟩ : ∃ tt, tt = told4 y0 y1 y2 y3 := ⟨_, rfl⟩
      rw [← htt] at htold
      have HTT := Lib.hid htt
      clear htt
      cases tb with
      | false =>
        have hsum : sumN (T.take len0) = tt := by rw [HTT.out]; exact HF.out.2 HTB.out.symm
        have HSUM := Lib.hid hsum
        clear hsum
        go_wp2_with fail
        go_quiet (fail)
        go_wp2_with fail
        refine (sum_eq _ _ _ (T.take len0) _ _ HSUM.out (HT.out.drewN _) HTL.out).mono ?_
        rintro e w' ⟨rfl, rfl⟩
        go_wp2_with fail
        go_ret
        exact ⟨rfl, below_drewN hbr _⟩
      | true =>
        have hne : ((sumN (T.take len0) : Int) == (tt : Int)) = false := by
          have : ¬ sumN (T.take len0) = tt := fun h => by
            have := HF.out.1 (by rw [h, HTT.out])
            rw [← HTB.out] at this; cases this
          simp; omega
        go_wp2_with fail
        go_quiet (fail)
        go_wp2_with fail
        refine (sum_any _ _ _ (T.take len0) _ (HT.out.drewN _) HTL.out).mono ?_
        rintro e w' ⟨rfl, rfl⟩
        go_wp2_with fail
        go_ret
        exact ⟨rfl, below_drewN hbr _⟩
end Go.Proofs.Ytmbhmjhjfekcfaa
