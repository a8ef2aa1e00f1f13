/- CrcMore: for every two slices of bytes and every number the law answers true and writes nothing that was there. No condition. -/
import Derived.Test.YtmbhmjhjfekcfaaBytes
import Derived.Test.YtmbhmjhjfekcfaaCrcRef
import Derived.Test.YtmbhmjhjfekcfaaCrcAwake
namespace Go.Proofs.Ytmbhmjhjfekcfaa
open Go.RowKit

theorem Try.infoU8 : (Try.prog.info? 5).map (fun i => (i.zero, i.size, i.bytes)) = some (some (.int .u8 0), 1, 1) := by kernel_rfl

theorem crcMore_walk (a0 : Option Addr) (len0 cap0 : Nat) (z0 : List Int) (a1 : Option Addr) (len1 cap1 : Nat) (z1 : List Int) (a2 : Int) (w : World) (w0 : RowIn .u8 w a0 len0 cap0 z0) (w1 : RowIn .u8 w a1 len1 cap1 z1) (w2 : (Lit.int .u32 a2).wf = true) :
    Calls Try.prog 4 #[.slice a0 len0 cap0, .slice a1 len1 cap1, .int .u32 a2] w fun e w' => e = .returned (.bool true) ∧ Below w.heap.size w w' := by
  obtain ⟨la, hn0, hl0⟩ := bytes_of_row w0
  obtain ⟨lb, hn1, hl1⟩ := bytes_of_row w1
  obtain ⟨s, rfl, hs⟩ := nat_of_u32 w2
  have hnm0 : len0 ≤ 9223372036854775807 := by have := hl0.2.1; omega
  have hnm1 : len1 ≤ 9223372036854775807 := by have := hl1.2.1; omega
  have HC0 := Lib.hid (row_nil w0)
  have HC1 := Lib.hid (row_nil w1)
  clear w0 w1 w2
  have HN0 := Lib.hid hn0; clear hn0
  have HL0 := Lib.hid hl0; clear hl0
  have HN1 := Lib.hid hn1; clear hn1
  have HL1 := Lib.hid hl1; clear hl1
  obtain ⟨i0, hi, hz0, hz1, hz2⟩ := info_parts Try.infoU8
  have HI := Lib.hid hi; clear hi
  have HZ0 := Lib.hid hz0; clear hz0
  have HZ1 := Lib.hid hz1; clear hz1
  have HZ2 := Lib.hid hz2; clear hz2
  by_cases h5 : 5000 < len0
  · go_enter Try.func4, Try.ntmps4
    go_wp2_with fail
    refine (awake_any w).mono ?_
    rintro e w1 ⟨rfl, hb⟩
    go_wp2_with fail
    go_ret
    exact ⟨rfl, hb⟩
  · by_cases h6 : 5000 < len1
    · go_enter Try.func4, Try.ntmps4
      go_wp2_with fail
      refine (awake_any w).mono ?_
      rintro e w1 ⟨rfl, hb⟩
      go_wp2_with fail
      go_ret
      exact ⟨rfl, hb⟩
    · go_enter Try.func4, Try.ntmps4
      go_wp2_with fail
      refine (awake_any w).mono ?_
      rintro e w1 ⟨rfl, hb⟩
      go_wp2_with (at_builtin; refine wpList_append_bytes rfl (.tmp 18) (.tmp 19) 22 rfl w.heap.size 5 i0 Try.underlying22 HI.out HZ0.out HZ1.out HZ2.out _ 0 [] rfl ?own1 _ _ _ la rfl ?b1 HN0.out HC0.out ?fit1 ?base1 ?_)
      case own1 => exact World.ownsRow_lit w1 #[] 0 hb.size (by unfold maxLen; omega) rfl
      case b1 => exact HL0.out.later (hb.alloc hb.size _)
      case fit1 => omega
      case base1 => have := hb.size; simp; omega
      intro a2 cap2 w2 hown2 hg2
      have hb2 : Below w.heap.size w w2 := (hb.alloc hb.size _).grown hg2 (by have := hb.size; simp; omega) (fun k hk => by have := hb.size; simp [Value.ownBlock] at hk; omega)
      clear hg2
      go_wp2_with (at_builtin; refine wpList_append_bytes rfl (.tmp 20) (.tmp 21) 22 rfl w.heap.size 5 i0 Try.underlying22 HI.out HZ0.out HZ1.out HZ2.out _ len0 _ rfl hown2 _ _ _ lb rfl ?b2 HN1.out HC1.out ?fit2 ?base2 ?_)
      case b2 => exact HL1.out.later hb2
      case fit2 => omega
      case base2 => exact hb2.size
      intro a3 cap3 w3 hown3 hg3
      have hb3 : Below w.heap.size w w3 := hb2.grown hg3 hb2.size (fun k hk => (hown2.lt k hk).1)
      have ha8 : ∀ c ∈ la ++ lb, c < 256 := by
        intro c hc
        rcases List.mem_append.1 hc with h | h
        · exact HL0.out.1 c h
        · exact HL1.out.1 c h
      rw [← List.map_append] at hown3
      obtain ⟨hn3, hl3, _⟩ := bytes_of_own hown3 ha8
      have HN3 := Lib.hid hn3
      have HL3 := Lib.hid hl3
      have hlt0 := sumN_lt HL0.out.1
      have hltm := moreN_lt (l := la) hs HL0.out.1
      clear hn3 hl3 hown3 hg3 hown2 hb2 ha8
      go_wp2_with fail
      refine (sum_any _ _ _ la _ (HL0.out.later hb3) HN0.out).mono ?_
      rintro e w' ⟨rfl, rfl⟩
      go_wp2_with fail
      refine (more_any _ _ _ _ lb _ hlt0 (HL1.out.later hb3) HN1.out).mono ?_
      rintro e w' ⟨rfl, rfl⟩
      go_wp2_with fail
      refine (ref_sum_eq _ _ _ (la ++ lb) _ _ (moreN_append 0 la lb) HL3.out HN3.out).mono ?_
      rintro e w' ⟨rfl, rfl⟩
      go_wp2_with fail
      refine (more_any s _ _ _ la _ hs (HL0.out.later hb3) HN0.out).mono ?_
      rintro e w' ⟨rfl, rfl⟩
      go_wp2_with fail
      refine (more_any _ _ _ _ lb _ hltm (HL1.out.later hb3) HN1.out).mono ?_
      rintro e w' ⟨rfl, rfl⟩
      go_wp2_with fail
      refine (more_eq s _ _ _ (la ++ lb) _ _ (moreN_append s la lb) hs HL3.out HN3.out).mono ?_
      rintro e w' ⟨rfl, rfl⟩
      go_wp2_with fail
      refine (more_eq s _ _ _ [] _ _ (moreN_nil s) hs (bytes_nil _ _) rfl).mono ?_
      rintro e w' ⟨rfl, rfl⟩
      go_wp2_with fail
      go_ret
      exact ⟨rfl, hb3⟩
end Go.Proofs.Ytmbhmjhjfekcfaa
