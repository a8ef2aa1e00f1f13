/- DiskSure: the walk. -/
import Derived.Test.YtibaloloheakpaaDkMath
namespace Go.Proofs.Ytibaloloheakpaa
open Go.RowKit

theorem diskSure_long (a0 : Option Addr) (len0 cap0 : Nat) (a1 : Option Addr) (len1 cap1 : Nat) (keep bit : Int) (w : World) (h0 : len0 ≤ 9223372036854775807) (h1 : len1 ≤ 9223372036854775807) (h : 1000 < len0 ∨ 1000 < len1) :
    Calls Try.prog 4 #[.slice a0 len0 cap0, .slice a1 len1 cap1, .int .i64 keep, .int .i64 bit] w fun e w' => e = .returned (.bool true) ∧ Below w.heap.size w w' := by
  have h' : 1000 < len0 ∨ (len0 ≤ 1000 ∧ 1000 < len1) := by omega
  clear h
  rcases h' with h | ⟨h, h2⟩
  all_goals
    go_enter Try.func4, Try.ntmps4
    go_wp2_with fail
    refine (awake4_any w).mono ?_
    rintro e w1 ⟨rfl, hb⟩
    have HB := Lib.hid hb; clear hb
    go_wp2
    go_ret
    exact ⟨rfl, HB.out⟩

set_option maxRecDepth 100000 in
set_option maxHeartbeats 4000000 in
theorem diskSure_main (a0 : Option Addr) (len0 cap0 : Nat) (la : List Nat) (a1 : Option Addr) (len1 cap1 : Nat) (lb : List Nat) (keep bit : Int) (w : World)
    (n0 : len0 = la.length) (b0 : Bytes w a0 la) (c0 : len0 ≤ cap0) (z0 : a0 = none → cap0 = 0) (n1 : len1 = lb.length) (b1 : Bytes w a1 lb) (c1 : len1 ≤ cap1) (z1 : a1 = none → cap1 = 0)
    (h0 : len0 ≤ 1000) (h1 : len1 ≤ 1000) :
    Calls Try.prog 4 #[.slice a0 len0 cap0, .slice a1 len1 cap1, .int .i64 keep, .int .i64 bit] w fun e w' => e = .returned (.bool true) ∧ Below w.heap.size w w' := by
  have B0 := Lib.hid b0; clear b0
  have B1 := Lib.hid b1; clear b1
  have N0 := Lib.hid n0; clear n0
  have N1 := Lib.hid n1; clear n1
  have Z0 := Lib.hid z0; clear z0
  have Z1 := Lib.hid z1; clear z1
  have sl : (la ++ lb).length = len0 + len1 := by rw [List.length_append, N0.out, N1.out]
  have hs : la.length ≤ (la ++ lb).length := by simp
  have CL := Lib.hid (crashed_length (l := la ++ lb) (s := la.length) (keep := keep) (bit := bit) hs)
  have CS := Lib.hid (crashed_sure (la ++ lb) la.length keep bit hs)
  have CT := Lib.hid (crashed_take (la ++ lb) la.length keep bit hs)
  obtain ⟨m, hm⟩ : ∃ m, m = keptN (la ++ lb) la.length keep := ⟨_, rfl⟩
  have hm2 : m ≤ len1 := by rw [hm]; unfold keptN; have := N0.out; omega
  have hm0 : m = 0 → keep ≤ 0 ∨ len1 = 0 := by rw [hm]; unfold keptN; rw [sl]; have := N0.out; omega
  obtain ⟨C, hC⟩ : ∃ C, C = crashed (la ++ lb) la.length keep bit := ⟨_, rfl⟩
  rw [← hm, ← hC] at CL CT
  rw [← hC] at CS
  have SL := Lib.hid sl; clear sl hs
  have HM := Lib.hid hm; clear hm
  have HC := Lib.hid hC; clear hC
  obtain ⟨n, hn⟩ : ∃ n, n = len0 + m := ⟨_, rfl⟩
  have hn1 : len0 ≤ n := by omega
  have hn2 : n ≤ len0 + len1 := by omega
  have HNC : Hid (n = C.length) := by rw [CL.out, hn, N0.out]; exact Lib.hid rfl
  have HN := Lib.hid hn; clear hn
  go_enter Try.func4, Try.ntmps4
  go_wp2_with fail
  refine (awake4_any w).mono ?_
  rintro e w1 ⟨rfl, hb⟩
  have HF1 := Lib.hid (Frm.ofBelow hb); clear hb
  go_wp2_with fail
  refine (new_ok 5000 _ (by omega)).mono ?_
  rintro e w2 ⟨rfl, hd, hf, hz⟩
  have hsz := HF1.out.size
  obtain ⟨p, hp⟩ : ∃ p, p = w1.heap.size := ⟨_, rfl⟩
  rw [← hp] at hd hsz ⊢
  have HD2 := Lib.hid hd
  have HF2 := Lib.hid (HF1.out.trans hf (U := []) (by simp) (by simp))
  clear hd hf hz hp HF1
  go_wp2_with fail
  refine (append_ok a0 len0 cap0 la HD2.out (HF2.out.bytes B0.out (by simp)) N0.out Z0.out (by have := N0.out; simp; omega)).mono ?_
  rintro e w3 ⟨rfl, F3, hd3, hf3, hx3⟩
  have HF3 := Lib.hid (HF2.out.dk hsz HD2.out hf3)
  have HD3 : Hid (Dk w3 p p F3 la 0 5000) := hd3
  clear hd3 hf3 hx3 HF2 HD2
  go_wp2_with fail
  refine (sync_any HD3.out).mono ?_
  rintro e w4 ⟨rfl, F4, hd4, hf4, hx4⟩
  have HF4 := Lib.hid (HF3.out.dk hsz HD3.out hf4)
  have HD4 := Lib.hid hd4
  clear hd4 hf4 hx4 HF3 HD3
  go_wp2_with fail
  refine (append_ok a1 len1 cap1 lb HD4.out (HF4.out.bytes B1.out (by simp)) N1.out Z1.out (by have := N0.out; have := N1.out; omega)).mono ?_
  rintro e w5 ⟨rfl, F5, hd5, hf5, hx5⟩
  have HF5 := Lib.hid (HF4.out.dk hsz HD4.out hf5)
  have HD5 := Lib.hid hd5
  clear hd5 hf5 hx5 HF4 HD4
  go_wp2_with fail
  refine (crash_any keep bit HD5.out).mono ?_
  rintro e w6 ⟨rfl, F6, hd6, hf6, hx6⟩
  have HF6 := Lib.hid (HF5.out.dk hsz HD5.out hf6)
  have HD6 : Hid (Dk w6 p p F6 C n 5000) := by rw [HNC.out, HC.out]; exact hd6
  clear hd6 hf6 hx6 HF5 HD5
  go_wp2_with fail
  refine (bytes_any HD6.out).mono ?_
  rintro e w7 ⟨ax, cx, rfl, ho7, hf7⟩
  rw [← HNC.out] at ho7 ⊢
  have HF7 := Lib.hid (HF6.out.trans hf7 (U := []) (by simp) (by simp))
  have HD7 := Lib.hid (HD6.out.keep hf7 (by simp))
  have HO7 := Lib.hid ho7
  have hbx := (bytes_of_own ho7 HD7.out.1.1).2.1
  have hcx : n ≤ cx := by have := (Hd.ofOwn ho7).2.cap_le.1; have := HNC.out; omega
  have hcx2 : cx ≤ 9223372036854775807 := by have := (Hd.ofOwn ho7).2.cap_le.2; unfold maxLen at this; omega
  have HBX := Lib.hid hbx
  clear ho7 hf7 hbx HF6 HD6
  -- the conversions of the first test
  have hcut0 := fun w => run_head_h Try.underlying29 sizeU8 w ax n cx len0 (by omega)
  have S0 : C.take len0 = la := by have := CS.out; rw [← N0.out, List.take_left' (by rw [N0.out])] at this; exact this
  have cv0 : ∀ q, (convert 29 9 (.slice ax len0 cx)).run Try.prog (w7.drewN q) = .ok (.string (strOf la)) (w7.drewN q) := fun q =>
    run_to_string (P := Try.prog) (src := 29) (dst := 9) (e := 5) Try.underlying29 Try.underlying5 Try.underlying9 (l := la) (S0 ▸ (((Frm.refl [] w7).drewN q).bytes HBX.out (by simp)).take len0) N0.out
  have cv1 : ∀ q, (convert 29 9 (.slice a0 len0 cap0)).run Try.prog (w7.drewN q) = .ok (.string (strOf la)) (w7.drewN q) := fun q =>
    run_to_string (P := Try.prog) (src := 29) (dst := 9) (e := 5) Try.underlying29 Try.underlying5 Try.underlying9 (l := la) ((HF7.out.drewN q).bytes B0.out (by simp)) N0.out
  have SU := Lib.hid (fun (q : Nat) => sure_any (HD7.out.keep ((Frm.refl [] w7).drewN q) (by simp)))
  have d1 : decide (n < len0) = false := by simp; omega
  have d2 : decide ((len0 : Int) + (len1 : Int) < (n : Int)) = false := by simp; omega
  have d3 : decide (len0 + len1 < n) = false := by simp; omega
  have HS0 := Lib.hid S0; clear S0
  go_wp2_with fail
  go_quiet ((go_at_call 17; exact Calls.quiet_of_same ((SU.out _).mono fun _ _ h => ⟨h.1, h.2.symm⟩)))
  by_cases hm1 : m = 0
  · have hm0 := hm0 hm1
    obtain rfl : n = len0 := by have := HN.out; omega
    clear hm1 d1 d2 d3 cv0 cv1 hcut0
    by_cases hk : keep ≤ 0
    · clear hm0
      go_wp2
      go_ret
      exact ⟨rfl, (HF7.out.drewN nq).new⟩
    · have hl1 : len1 = 0 := by omega
      clear hm0
      subst hl1
      go_wp2
      go_ret
      exact ⟨rfl, (HF7.out.drewN nq).new⟩
  have hne : ((n : Int) == (len0 : Int)) = false := by have := HN.out; simp; omega
  have hpos : len0 < n := by have := HN.out; omega
  clear hm0 d1 d2 d3 cv0 cv1 hcut0
  obtain ⟨i0, hi, hz0, hz1, hz2⟩ := info_parts Try.info5
  have HI := Lib.hid hi; clear hi
  have HZ0 := Lib.hid hz0; clear hz0
  have HZ1 := Lib.hid hz1; clear hz1
  have HZ2 := Lib.hid hz2; clear hz2
  have HF8 := Lib.hid (HF7.out.drewN nq)
  have HD8 := Lib.hid (HD7.out.keep ((Frm.refl [] w7).drewN nq) (by simp))
  go_wp2_with (at_builtin; refine wpList_append_bytes rfl (.tmp 91) (.tmp 92) 29 rfl w7.heap.size 5 i0 Try.underlying29 HI.out HZ0.out HZ1.out HZ2.out _ 0 [] rfl ?own1 _ _ _ la rfl ?b1 N0.out Z0.out ?fit1 ?base1 ?_)
  case own1 => exact World.ownsRow_lit (w7.drewN nq) #[] 0 (Nat.le_refl _) (by unfold maxLen; omega) rfl
  case b1 => exact (HF8.out.alloc _).bytes B0.out (by simp)
  case fit1 => omega
  case base1 => simp
  intro a2 cap2 w8 hown2 hg2
  have HF9 := Lib.hid ((HF8.out.alloc (.cells #[] 5)).grown hg2 (fun k hk => by simp [Value.ownBlock] at hk; right; have := HF8.out.size; simp at this; omega))
  have HG9 := Lib.hid (((Frm.refl [] w7).drewN nq |>.alloc (.cells #[] 5)).grown hg2 (fun k hk => by simp [Value.ownBlock] at hk; right; omega))
  clear hg2
  have hz9 : w7.heap.size ≤ w8.heap.size := HG9.out.size
  go_wp2_with (at_builtin; refine wpList_append_bytes rfl (.tmp 93) (.tmp 94) 29 rfl w7.heap.size 5 i0 Try.underlying29 HI.out HZ0.out HZ1.out HZ2.out _ len0 (la.map u8v) rfl hown2 _ _ _ lb rfl ?b2 N1.out Z1.out ?fit2 ?base2 ?_)
  case b2 => exact HF9.out.bytes B1.out (by simp)
  case fit2 => omega
  case base2 => exact hz9
  intro a3 cap3 w9 hown3 hg3
  have HFA := Lib.hid (HF9.out.grown hg3 (fun k hk => .inr (by have := (hown2.lt k hk).1; have := HF7.out.size; omega)))
  have HGA := Lib.hid (HG9.out.grown hg3 (fun k hk => .inr (hown2.lt k hk).1))
  rw [← List.map_append] at hown3
  have hh3 := (Hd.ofOwn hown3).2
  clear hg3 hown2 HF8 HF9 HG9 HI HZ0 HZ1 HZ2 hz9
  obtain ⟨k, rfl⟩ : ∃ k, n = k + 1 := ⟨n - 1, by omega⟩
  have hk2 : k < len0 + len1 := by omega
  have hx7 := (Hd.ofOwn HO7.out).2
  obtain ⟨gx, rfl⟩ : ∃ g, ax = some ⟨g, 0, none⟩ := by
    rcases hx7 with ⟨_, h, _⟩ | ⟨g, cur, h, _⟩
    · have := HNC.out; rw [h] at this; simp at this
    · exact ⟨g, h⟩
  obtain ⟨ga, rfl⟩ : ∃ g, a3 = some ⟨g, 0, none⟩ := by
    rcases hh3 with ⟨_, h, _⟩ | ⟨g, cur, h, _⟩
    · have := SL.out; rw [h] at this; simp at this; omega
    · exact ⟨g, h⟩
  have hx9 := hx7.keep HGA.out (by simp)
  have cx9 := hx9.cellAt (i := k) (by have := HNC.out; omega)
  have ca9 := hh3.cellAt (i := k) (by rw [SL.out]; omega)
  obtain ⟨xv, hxv⟩ : ∃ v, v = C.getD k 0 := ⟨_, rfl⟩
  obtain ⟨y, hy⟩ : ∃ v, v = (la ++ lb).getD k 0 := ⟨_, rfl⟩
  rw [← hxv] at cx9
  rw [← hy] at ca9
  unfold u8v at cx9 ca9
  have hL8 : ∀ c ∈ la ++ lb, c < 256 := fun c hc => by
    rcases List.mem_append.1 hc with h | h
    · exact B0.out.1 c h
    · exact B1.out.1 c h
  have hy8 : y < 256 := by rw [hy]; exact getD_lt hL8 k
  have hcapa := hh3.cap_le
  rw [SL.out] at hcapa
  unfold maxLen at hcapa
  have hke : la.length + m - 1 = k := by have := HN.out; have := N0.out; omega
  have ES : C.take k = (la ++ lb).take k := by have := CT.out; rw [hke] at this; exact this
  have hb3 := hh3.bytes hL8
  have hbx9 := HGA.out.bytes HBX.out (by simp)
  have hcutx := fun w => run_head_h Try.underlying29 sizeU8 w (some ⟨gx, 0, none⟩) (k + 1) cx k (by omega)
  have hcuta := fun w => run_head_h Try.underlying29 sizeU8 w (some ⟨ga, 0, none⟩) (len0 + len1) cap3 k (by omega)
  have cvx : ∀ q, (convert 29 9 (.slice (some ⟨gx, 0, none⟩) k cx)).run Try.prog (w9.drewN q) = .ok (.string (strOf ((la ++ lb).take k))) (w9.drewN q) := fun q =>
    run_to_string (P := Try.prog) (src := 29) (dst := 9) (e := 5) Try.underlying29 Try.underlying5 Try.underlying9 (l := (la ++ lb).take k) (ES ▸ (((Frm.refl [] w9).drewN q).bytes hbx9 (by simp)).take k) (by rw [List.length_take, SL.out]; omega)
  have cva : ∀ q, (convert 29 9 (.slice (some ⟨ga, 0, none⟩) k cap3)).run Try.prog (w9.drewN q) = .ok (.string (strOf ((la ++ lb).take k))) (w9.drewN q) := fun q =>
    run_to_string (P := Try.prog) (src := 29) (dst := 9) (e := 5) Try.underlying29 Try.underlying5 Try.underlying9 (l := (la ++ lb).take k) ((((Frm.refl [] w9).drewN q).bytes hb3 (by simp)).take k) (by rw [List.length_take, SL.out]; omega)
  obtain ⟨S, hS⟩ : ∃ S, S = strOf ((la ++ lb).take k) := ⟨_, rfl⟩
  rw [← hS] at cvx cva
  have hsub : IntKind.i64.wrap (((k + 1 : Nat) : Int) - 1) = (k : Int) := by rw [show (((k + 1 : Nat) : Int) - 1) = (k : Int) by omega]; exact IntWalk.i64_in _ (by omega)
  have hlt1 : decide ((k : Int) < ((k + 1 : Nat) : Int)) = true := by simp; omega
  have hlt2 : decide ((k : Int) < ((len0 + len1 : Nat) : Int)) = true := by simp; omega
  have hs' : la.length ≤ (la ++ lb).length := by simp
  have hkp : 0 < keptN (la ++ lb) la.length keep := by have := HM.out; omega
  have key : (bit < 0 ∧ xv = y) ∨ (7 < bit ∧ xv = y) ∨ ∃ t : Nat, bit = t ∧ t < 8 ∧ xv = y ^^^ 2 ^ t := by
    have hc := HC.out
    have hke' : la.length + keptN (la ++ lb) la.length keep - 1 = k := by rw [← HM.out]; exact hke
    by_cases hb : bit < 0 ∨ 7 < bit
    · have := crashed_last' (la ++ lb) la.length keep bit hkp hb
      rw [hke', ← hc, ← hxv, ← hy] at this
      rcases hb with hb | hb
      · exact .inl ⟨hb, this⟩
      · exact .inr (.inl ⟨hb, this⟩)
    · obtain ⟨t, rfl⟩ : ∃ t : Nat, bit = t := ⟨bit.toNat, by omega⟩
      have := crashed_last (la ++ lb) la.length keep t hs' hkp (by omega)
      rw [hke', ← hc, ← hxv, ← hy] at this
      exact .inr (.inr ⟨t, rfl, by omega, this⟩)
  clear hx7 hh3 hx9 hown3 hxv hy hL8 ES hb3 hbx9 hS hs' hkp HC HM CT CL CS SL HNC HN HO7 HBX HD7 HD8 HF7 hke hcapa B0 B1 N0 N1 Z0 Z1 HS0 SU
  rcases key with ⟨hb, rfl⟩ | ⟨hb, rfl⟩ | ⟨t, rfl, ht, rfl⟩
  · have ht := turned_none xv hy8
    have hw0 : IntKind.u8.wrap ((0 : Int) - 1) = 255 := by decide
    have ha0 : bits .and .u8 (0 : Int) 255 = 0 := by decide
    have hbd : decide (0 ≤ bit) = false := by simp; omega
    go_wp2
    go_quiet (fail)
    go_wp2
    go_quiet (fail)
    go_wp2
    go_ret
    first | exact ⟨rfl, ((HFA.out.drewN _).drewN _).new⟩ | exact ⟨rfl, (HFA.out.drewN _).new⟩
  · have ht := turned_none xv hy8
    have hw0 : IntKind.u8.wrap ((0 : Int) - 1) = 255 := by decide
    have ha0 : bits .and .u8 (0 : Int) 255 = 0 := by decide
    have hbd : decide (0 ≤ bit) = true := by simp; omega
    have hbd2 : decide (bit < 8) = false := by simp; omega
    go_wp2
    go_quiet (fail)
    go_wp2
    go_quiet (fail)
    go_wp2
    go_ret
    first | exact ⟨rfl, ((HFA.out.drewN _).drewN _).new⟩ | exact ⟨rfl, (HFA.out.drewN _).new⟩
  · have h1 := turned_one y t hy8 ht
    have h2 := one_bit t ht
    have h3 : 0 < 2 ^ t := Nat.two_pow_pos t
    have h4 : 2 ^ t < 256 := Nat.pow_lt_pow_right (by omega) (by omega : t < 8)
    obtain ⟨T, hT⟩ : ∃ T, T = 2 ^ t := ⟨_, rfl⟩
    obtain ⟨xv, hxv⟩ : ∃ xv, xv = y ^^^ 2 ^ t := ⟨_, rfl⟩
    rw [← hxv] at h1 cx9
    rw [← hT] at h1 h2 h3 h4
    clear hT hxv
    have hw0 : IntKind.u8.wrap ((T : Int) - 1) = (T : Int) - 1 := by
      have : IntKind.u8.wrap ((T : Int) - 1) = ((T : Int) - 1) % 256 := rfl
      omega
    have hne0 : ((T : Int) == 0) = false := by simp; omega
    have hne1 : ((T : Int) != 0) = true := by simp; omega
    have hbd : decide (0 ≤ (t : Int)) = true := by simp
    have hbd2 : decide ((t : Int) < 8) = true := by simp; omega
    go_wp2
    go_quiet (fail)
    go_wp2
    go_quiet (fail)
    go_wp2
    go_ret
    first | exact ⟨rfl, ((HFA.out.drewN _).drewN _).new⟩ | exact ⟨rfl, (HFA.out.drewN _).new⟩

theorem diskSure_walk (a0 : Option Addr) (len0 cap0 : Nat) (la : List Nat) (a1 : Option Addr) (len1 cap1 : Nat) (lb : List Nat) (keep bit : Int) (w : World)
    (n0 : len0 = la.length) (b0 : Bytes w a0 la) (c0 : len0 ≤ cap0) (z0 : a0 = none → cap0 = 0) (n1 : len1 = lb.length) (b1 : Bytes w a1 lb) (c1 : len1 ≤ cap1) (z1 : a1 = none → cap1 = 0)
    (_w2 : (Lit.int .i64 keep).wf = true) (_w3 : (Lit.int .i64 bit).wf = true) :
    Calls Try.prog 4 #[.slice a0 len0 cap0, .slice a1 len1 cap1, .int .i64 keep, .int .i64 bit] w fun e w' => e = .returned (.bool true) ∧ Below w.heap.size w w' := by
  by_cases h : 1000 < len0 ∨ 1000 < len1
  · exact diskSure_long a0 len0 cap0 a1 len1 cap1 keep bit w (by have := b0.2.1; omega) (by have := b1.2.1; omega) h
  · exact diskSure_main a0 len0 cap0 la a1 len1 cap1 lb keep bit w n0 b0 c0 z0 n1 b1 c1 z1 (by omega) (by omega)
end Go.Proofs.Ytibaloloheakpaa
