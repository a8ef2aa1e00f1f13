/- DiskAgain: the walk. -/
import Derived.Test.YtibaloloheakpaaDkMath
import Derived.Test.YtibaloloheakpaaInPr
namespace Go.Proofs.Ytibaloloheakpaa
open Go.RowKit

theorem Dk.mem {w : World} {B p : Nat} {F l : List Nat} {s room : Nat} (h : Dk w B p F l s room) : p ∈ F := by
  rcases h.2 with ⟨_, rfl, _⟩ | ⟨r, a, cap, _, rfl⟩ <;> simp

theorem diskAgain_long (a0 : Option Addr) (len0 cap0 : Nat) (a1 : Option Addr) (len1 cap1 : Nat) (v : Value) (w : World) (h0 : len0 ≤ 9223372036854775807) (h1 : len1 ≤ 9223372036854775807) (h : 1000 < len0 ∨ 1000 < len1) :
    Calls Try.prog 6 #[.slice a0 len0 cap0, .slice a1 len1 cap1, v] w fun e w' => e = .returned (.bool true) ∧ Below w.heap.size w w' := by
  have h' : 1000 < len0 ∨ (len0 ≤ 1000 ∧ 1000 < len1) := by omega
  clear h
  rcases h' with h | ⟨h, h2⟩
  all_goals
    go_enter Try.func6, Try.ntmps6
    go_wp2_with fail
    refine (awake4_any w).mono ?_
    rintro e w1 ⟨rfl, hb⟩
    have HB := Lib.hid hb; clear hb
    go_wp2
    go_ret
    exact ⟨rfl, HB.out⟩

/-- At the head of the loop over crashes. -/
def AgRel (w : World) (p n : Nat) (L : List Nat) (s : Nat) (was i : Value) (wr : World) : Prop :=
  ∃ (k : Nat) (F : List Nat), k ≤ n ∧ i = .int .i64 k ∧ Frm [] w wr ∧
    ((k = 0 ∧ Dk wr p p F L s 5000 ∧ was = .slice none 0 0) ∨
     (0 < k ∧ ∃ C aw cw, Dk wr p p F C C.length 5000 ∧ was = .slice aw C.length cw ∧ wr.ownsRow p 5 1 (.slice aw C.length cw) C.length (C.map u8v) ∧ ∀ g ∈ blk aw, g ∉ F))

set_option maxRecDepth 100000 in
set_option maxHeartbeats 4000000 in
theorem diskAgain_main (a0 : Option Addr) (len0 cap0 : Nat) (la : List Nat) (a1 : Option Addr) (len1 cap1 : Nat) (lb : List Nat) (a2 : Option Addr) (n cap2 : Nat) (ts : List (Int × Int)) (w : World)
    (n0 : len0 = la.length) (b0 : Bytes w a0 la) (_c0 : len0 ≤ cap0) (z0 : a0 = none → cap0 = 0) (n1 : len1 = lb.length) (b1 : Bytes w a1 lb) (_c1 : len1 ≤ cap1) (z1 : a1 = none → cap1 = 0)
    (h2 : Prs w a2 ts) (n2 : n = ts.length) (m2 : n ≤ 9223372036854775807) (h0 : len0 ≤ 1000) (h1 : len1 ≤ 1000) :
    Calls Try.prog 6 #[.slice a0 len0 cap0, .slice a1 len1 cap1, .slice a2 n cap2] w fun e w' => e = .returned (.bool true) ∧ Below w.heap.size w w' := by
  have B0 := Lib.hid b0; clear b0
  have B1 := Lib.hid b1; clear b1
  have N0 := Lib.hid n0; clear n0
  have N1 := Lib.hid n1; clear n1
  have Z0 := Lib.hid z0; clear z0
  have Z1 := Lib.hid z1; clear z1
  have H2 := Lib.hid h2; clear h2
  have N2 := Lib.hid n2; clear n2
  go_enter Try.func6, Try.ntmps6
  go_wp2_with fail
  refine (awake4_any w).mono ?_
  rintro e w1 ⟨rfl, hb⟩
  have HF1 := Lib.hid (Frm.ofBelow hb); clear hb
  go_wp2_with fail
  refine (new_ok 5000 _ (by omega)).mono ?_
  rintro e w2 ⟨rfl, hd, hf, hz⟩
  have hsz := HF1.out.size
  obtain ⟨p, hp⟩ : ∃ p, p = w1.heap.size := ⟨_, rfl⟩
  rw [← hp] at hd hsz ⊢
  have HD2 := Lib.hid hd
  have HF2 := Lib.hid (HF1.out.trans hf (U := []) (by simp) (by simp))
  clear hd hf hz hp HF1
  go_wp2_with fail
  refine (append_ok a0 len0 cap0 la HD2.out (HF2.out.bytes B0.out (by simp)) N0.out Z0.out (by have := N0.out; simp; omega)).mono ?_
  rintro e w3 ⟨rfl, F3, hd3, hf3, hx3⟩
  have HF3 := Lib.hid (HF2.out.dk hsz HD2.out hf3)
  have HD3 : Hid (Dk w3 p p F3 la 0 5000) := hd3
  clear hd3 hf3 hx3 HF2 HD2
  go_wp2_with fail
  refine (sync_any HD3.out).mono ?_
  rintro e w4 ⟨rfl, F4, hd4, hf4, hx4⟩
  have HF4 := Lib.hid (HF3.out.dk hsz HD3.out hf4)
  have HD4 := Lib.hid hd4
  clear hd4 hf4 hx4 HF3 HD3
  go_wp2_with fail
  refine (append_ok a1 len1 cap1 lb HD4.out (HF4.out.bytes B1.out (by simp)) N1.out Z1.out (by have := N0.out; have := N1.out; omega)).mono ?_
  rintro e w5 ⟨rfl, F5, hd5, hf5, hx5⟩
  have HF5 := Lib.hid (HF4.out.dk hsz HD4.out hf5)
  have R0 : AgRel w p n (la ++ lb) la.length (.slice none 0 0) (.int .i64 (0 : Nat)) w5 := ⟨0, F5, Nat.zero_le _, rfl, HF5.out, .inl ⟨rfl, hd5, rfl⟩⟩
  have HR0 := Lib.hid R0
  clear hd5 hf5 hx5 HF4 HD4 R0
  obtain ⟨s, hs⟩ : ∃ s, s = la.length := ⟨_, rfl⟩
  obtain ⟨L, hL⟩ : ∃ L, L = la ++ lb := ⟨_, rfl⟩
  rw [← hs, ← hL] at HR0
  clear hs hL B0 B1 N0 N1 Z0 Z1 HF5
  go_wp2
  go_loopw [9, 37] (fun was i wr => AgRel w p n L s was i wr) (fun _ i _ => n - (intOf i).toNat)
  case atStart => exact HR0.out
  case round =>
    obtain ⟨k, F, hk, rfl, hf, hd⟩ := hrel
    have HF := Lib.hid hf; clear hf
    by_cases hlt : k < n
    · obtain ⟨b, off, rfl, hi⟩ := H2.out (by have := N2.out; omega)
      obtain ⟨q0, q1⟩ := hi k (by have := N2.out; omega)
      have e0 := (HF.out.cell (block_lt_of_cell q0) (by simp)).trans q0
      have e1 := (HF.out.cell (block_lt_of_cell q1) (by simp)).trans q1
      generalize ts.getD k (0, 0) = t at e0 e1
      obtain ⟨keep, bit⟩ := t
      simp only at e0 e1
      clear hi q0 q1
      by_cases h20 : 20 < k
      · clear hd
        go_wp2
        go_ret
        exact ⟨rfl, (HF.out.alloc _).new⟩
      have key : ∃ X s', Dk wr p p F X s' 5000 ∧ ((k = 0 ∧ u9 = .slice none 0 0) ∨ (0 < k ∧ ∃ aw cw, crashed X s' keep bit = X ∧ u9 = .slice aw X.length cw ∧ wr.ownsRow p 5 1 (.slice aw X.length cw) X.length (X.map u8v) ∧ ∀ g ∈ blk aw, g ∉ F)) := by
        rcases hd with ⟨h, h1, h2⟩ | ⟨h, C, aw, cw, h1, h2, h3, h4⟩
        · exact ⟨L, s, h1, .inl ⟨h, h2⟩⟩
        · exact ⟨C, C.length, h1, .inr ⟨h, aw, cw, crashed_again C keep bit, h2, h3, h4⟩⟩
      obtain ⟨X, s', hd', hcase⟩ := key
      have HD := Lib.hid hd'; clear hd hd'
      obtain ⟨C, hC⟩ : ∃ C, C = crashed X s' keep bit := ⟨_, rfl⟩
      obtain ⟨m, hm⟩ : ∃ m, m = C.length := ⟨_, rfl⟩
      have HC := Lib.hid hC; clear hC
      have HM := Lib.hid hm; clear hm
      have HA := (Frm.refl [] wr).alloc (.cells #[.int .i64 keep, .int .i64 bit] 45)
      go_wp2_with fail
      refine (crash_any keep bit (HD.out.keep HA (by simp))).mono ?_
      rintro e w6 ⟨rfl, F6, hd6, hf6, hx6⟩
      rw [← HC.out, ← HM.out] at hd6
      have HF6 := Lib.hid ((HF.out.trans HA (U := []) (by simp) (by simp)).dk hsz (HD.out.keep HA (by simp)) hf6)
      have HFA := Lib.hid (HA.trans hf6 (U := F) (by simp) (fun x hx => .inl hx))
      have HX6 := Lib.hid hx6
      have HD6 := Lib.hid hd6
      clear hd6 hf6 hx6 HA
      go_wp2_with fail
      refine (bytes_any HD6.out).mono ?_
      rintro e w7 ⟨ax, cx, rfl, ho7, hf7⟩
      rw [← HM.out] at ho7 ⊢
      have hn7 := ho7.lt
      have HF7 := Lib.hid (HF6.out.trans hf7 (U := []) (by simp) (by simp))
      have HD7 := Lib.hid (HD6.out.keep hf7 (by simp))
      have HG7 := Lib.hid hf7
      have HO7 := Lib.hid ho7
      have hbx := (bytes_of_own ho7 HD7.out.1.1).2.1
      have hcx := (Hd.ofOwn ho7).2.cap_le
      unfold maxLen at hcx
      have hm5 : m ≤ 5000 := by rw [HM.out]; exact HD7.out.1.2.2.2.1
      have hap : ∀ g ∈ blk ax, g ∉ F6 := by
        intro g hg hm'
        obtain ⟨x, rfl, rfl⟩ := mem_blk.1 hg
        have h1 := (hn7 x.block rfl).1
        have h2 := (HD6.out.lt x.block hm').2
        omega
      have R1 : AgRel w p n L s (.slice ax m cx) (.int .i64 ((k + 1 : Nat) : Int)) w7 := by
        refine ⟨k + 1, F6, hlt, rfl, HF7.out, .inr ⟨by omega, C, ax, cx, ?_, ?_, ?_, hap⟩⟩
        · rw [← HM.out]; exact HD7.out
        · rw [HM.out]
        · have h1 := HO7.out
          rw [HM.out] at h1
          refine ⟨h1.1, ?_⟩
          rcases h1.2 with h | ⟨g, cap, cur, h, hb, hr⟩
          · exact .inl h
          · exact .inr ⟨g, cap, cur, h, Nat.le_trans (Nat.le_of_lt (HD6.out.lt p HD6.out.mem).2) hb, hr⟩
      have HR1 := Lib.hid R1
      clear R1 hap hn7
      have cvx := run_to_string (P := Try.prog) (src := 29) (dst := 9) (e := 5) Try.underlying29 Try.underlying5 Try.underlying9 (n := m) (c := cx) hbx HM.out
      rcases hcase with ⟨rfl, rfl⟩ | ⟨hk0, aw, cw, hCX, rfl, how, haF⟩
      · clear HO7 hbx ho7 hf7
        go_wp2_with fail
        refine (sure_any HD7.out).mono ?_
        rintro e w' ⟨rfl, rfl⟩
        go_wp2
        go_roundw
        case rel => exact HR1.out
        case measure => simp [intOf]; omega
      · have how6 := HFA.out.own how (fun g hg => haF g (by cases aw with | none => simp [Value.ownBlock] at hg | some x => simp [Value.ownBlock] at hg; simp [hg]))
        have how7 := HG7.out.own how6 (by simp)
        have hX8 : ∀ c ∈ X, c < 256 := HD.out.1.1
        have hXC : X = C := by rw [HC.out, hCX]
        have hmX : m = X.length := by rw [HM.out, hXC]
        rw [← hmX] at how7 ⊢
        have cvw := run_to_string (P := Try.prog) (src := 29) (dst := 9) (e := 5) Try.underlying29 Try.underlying5 Try.underlying9 (n := m) (c := cw) (bytes_of_own how7 hX8).2.1 hmX
        rw [hXC] at cvw
        obtain ⟨S, hS⟩ : ∃ S, S = strOf C := ⟨_, rfl⟩
        rw [← hS] at cvw cvx
        clear how how6 how7 hX8 hXC hmX hCX haF HO7 hbx ho7 hf7 hS
        go_wp2_with fail
        refine (sure_any HD7.out).mono ?_
        rintro e w' ⟨rfl, rfl⟩
        go_wp2
        go_roundw
        case rel => exact HR1.out
        case measure => simp [intOf]; omega
    · obtain rfl : k = n := by omega
      clear hd
      go_wp2
      go_ret
      exact ⟨rfl, HF.out.new⟩

theorem diskAgain_walk (a0 : Option Addr) (len0 cap0 : Nat) (la : List Nat) (a1 : Option Addr) (len1 cap1 : Nat) (lb : List Nat) (a2 : Option Addr) (n cap2 : Nat) (ts : List (Int × Int)) (w : World)
    (n0 : len0 = la.length) (b0 : Bytes w a0 la) (c0 : len0 ≤ cap0) (z0 : a0 = none → cap0 = 0) (n1 : len1 = lb.length) (b1 : Bytes w a1 lb) (c1 : len1 ≤ cap1) (z1 : a1 = none → cap1 = 0)
    (h2 : Prs w a2 ts) (n2 : n = ts.length) (m2 : n ≤ 9223372036854775807) :
    Calls Try.prog 6 #[.slice a0 len0 cap0, .slice a1 len1 cap1, .slice a2 n cap2] w fun e w' => e = .returned (.bool true) ∧ Below w.heap.size w w' := by
  by_cases h : 1000 < len0 ∨ 1000 < len1
  · exact diskAgain_long a0 len0 cap0 a1 len1 cap1 _ w (by have := b0.2.1; omega) (by have := b1.2.1; omega) h
  · exact diskAgain_main a0 len0 cap0 la a1 len1 cap1 lb a2 n cap2 ts w n0 b0 c0 z0 n1 b1 c1 z1 h2 n2 m2 (by omega) (by omega)
end Go.Proofs.Ytibaloloheakpaa
