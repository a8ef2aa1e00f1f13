/- Contracts of slices.Grow (of nil) and slices.Concat over ledgers. -/
import Derived.Test.YtimmoencmmpkdaaLdTrim
import Derived.Lib.AppendZerosOnto
import Derived.Lib.Walk
import Derived.Lib.SliceRun
namespace Go.Proofs.Ytimmoencmmpkdaa
open Go.RowKit
set_option maxRecDepth 100000

set_option maxHeartbeats 1000000 in
theorem ldgrow_any (n : Nat) (w : World) (hn : n ≤ 100000) : Calls Try.prog 42 #[.slice none 0 0, .int .i64 n] w fun e w' => ∃ a' cap', e = .returned (.slice a' 0 cap') ∧ LdOwn w' w.heap.size 32 [] a' cap' [] ∧ Frm [] w w' := by
  by_cases h0 : n = 0
  · subst h0
    go_enter Try.func42, Try.ntmps42
    go_wp2
    go_ret
    exact ⟨none, 0, rfl, LdOwn.nil _ _ _ _, Frm.refl _ _⟩
  · obtain ⟨i0, hi, hz0, hz1, hz2⟩ := info_parts infoLd
    have h1 : ¬ ((n : Int) < 0) := by omega
    have h4 : 0 < (n : Int) := by omega
    have hold : (Builtin.firstCells i0.size 0 (.slice none 0 0)).run Try.prog w.drew = .ok ([] : List Value).toArray w.drew := run_firstCells_none w.drew i0.size 0 0 0
    have hrz : ∀ ty, (Builtin.append_ #[22, 3] ty #[.slice none 0 0, .int .i64 (n : Int)]).run Try.prog w =
        .ok (.slice (some ⟨w.heap.size, 0, none⟩) n (grownCap w n 0 32)) (w.drew.alloc (.cells (#[] ++ Builtin.zeroCells #[.int .u64 0, .bool false, .int .u64 0] n ++ Builtin.zeroCells #[.int .u64 0, .bool false, .int .u64 0] (grownCap w n 0 32 - n)) 32)) := fun ty => by
      have h := Lib.run_append_grow_zeros w 22 3 ty 32 i0 (.agg #[.int .u64 0, .bool false, .int .u64 0]) .i64 .i64 Try.underlying22 Try.underlying3 hi hz0 none 0 0 [] hold n (by omega) (by omega) (by omega) (by omega)
        (by rw [hz2]; omega)
        (by rw [hz2, Nat.zero_add]; exact growslice_fits (by omega) (by omega))
      rw [Nat.zero_add] at h
      exact h
    have hGn : n ≤ grownCap w n 0 32 := grownCap_ge w _ _ _
    have hGm := grownCap_le_maxLen w n 0 32 (by unfold maxLen; omega)
    obtain ⟨G, hG⟩ : ∃ G, G = grownCap w n 0 32 := ⟨_, rfl⟩
    rw [← hG] at hrz hGn hGm
    have hG63 : G ≤ 9223372036854775807 := by unfold maxLen at hGm; omega
    have hsz : (Builtin.zeroCells #[.int .u64 0, .bool false, .int .u64 0] n ++ Builtin.zeroCells #[.int .u64 0, .bool false, .int .u64 0] (G - n)).size = G * 3 := by
      rw [Array.size_append, size_zeroCells, size_zeroCells]
      show n * 3 + (G - n) * 3 = G * 3
      omega
    have HO : Hid (LdOwn (w.alloc (.cells (Builtin.zeroCells #[.int .u64 0, .bool false, .int .u64 0] n ++ Builtin.zeroCells #[.int .u64 0, .bool false, .int .u64 0] (G - n)) 32)).drew w.heap.size 32 [] (some ⟨w.heap.size, 0, none⟩) G []) := Lib.hid ⟨by
      have := World.ownsRow_made (base := w.heap.size) (e := 32) (size := 3) w.drew (Builtin.zeroCells #[.int .u64 0, .bool false, .int .u64 0] n ++ Builtin.zeroCells #[.int .u64 0, .bool false, .int .u64 0] (G - n)) G (Nat.le_refl _) hGm hsz
      exact this, by simp, by simp⟩
    have HF : Hid (Frm [] w (w.alloc (.cells (Builtin.zeroCells #[.int .u64 0, .bool false, .int .u64 0] n ++ Builtin.zeroCells #[.int .u64 0, .bool false, .int .u64 0] (G - n)) 32)).drew) := ((Frm.refl _ _).alloc _).drew
    simp only [Array.empty_append] at hrz
    clear hold hG hsz hi hz0 hz1 hz2 h0 hGm
    go_enter Try.func42, Try.ntmps42
    go_wp2_with (at_builtin; refine Lib.wpList_append_run _ rfl _ _ _ _ rfl _ _ rfl rfl _ _ (hrz _) ?_)
    all_goals
      go_ret
      exact ⟨_, _, rfl, HO.out, HF.out⟩

/-- One of the slices that are joined. -/
structure LdSl where
  a : Option Addr
  cap : Nat
  l : List Ld
instance : Inhabited LdSl := ⟨⟨none, 0, []⟩⟩
def LdSlIn (w : World) (s : LdSl) : Prop := LdL w [] s.a s.l ∧ (s.a = none → s.cap = 0) ∧ s.l.length ≤ s.cap ∧ s.cap ≤ 9223372036854775807
theorem LdSlIn.keep {w w' : World} {s : LdSl} (h : LdSlIn w s) (hf : Frm [] w w') : LdSlIn w' s := ⟨h.1.sub hf, h.2⟩
def ldall (ss : List LdSl) : List Ld := ss.flatMap LdSl.l
theorem ldall_take {ss : List LdSl} {k : Nat} (h : k < ss.length) : ldall (ss.take (k + 1)) = ldall (ss.take k) ++ (ss.getD k default).l := by
  have e : ss.getD k default = ss[k] := by simp [h]
  unfold ldall
  rw [e, List.take_succ_eq_append_getElem h, List.flatMap_append, List.flatMap_singleton]
theorem ldall_take_le (ss : List LdSl) (k : Nat) : (ldall (ss.take k)).length ≤ (ldall ss).length := by
  have h : ldall (ss.take k) ++ ldall (ss.drop k) = ldall ss := by unfold ldall; rw [← List.flatMap_append, List.take_append_drop]
  have := congrArg List.length h
  rw [List.length_append] at this
  omega
/-- Slices that lie side by side. -/
def LdSlsIn (w : World) (g : Nat) (ss : List LdSl) : Prop := ∀ k, k < ss.length → w.cell? ⟨g, k, none⟩ = some (.slice (ss.getD k default).a (ss.getD k default).l.length (ss.getD k default).cap) ∧ LdSlIn w (ss.getD k default)
theorem LdSlsIn.keep {w w' : World} {g : Nat} {ss : List LdSl} (h : LdSlsIn w g ss) (hf : Frm [] w w') : LdSlsIn w' g ss := fun k hk =>
  ⟨(hf.cell (p := ⟨g, k, none⟩) (block_lt_of_cell (h k hk).1) (by simp)).trans (h k hk).1, (h k hk).2.keep hf⟩
theorem ldint_eq {k : IntKind} {a b : Int} (h : a = b) : Value.int k a = Value.int k b := by rw [h]
def CatLd (w0 : World) (base : Nat) (ss : List LdSl) (n : Nat) (v i : Value) (wr : World) : Prop :=
  ∃ (k : Nat) (a : Option Addr) (cap : Nat), k ≤ n ∧ i = .int .i64 k ∧ v = .slice a (ldall (ss.take k)).length cap ∧ LdOwn wr base 32 [] a cap (ldall (ss.take k)) ∧ Frm [] w0 wr

set_option maxHeartbeats 2000000 in
theorem ldconcat_any {w : World} {g : Nat} {ss : List LdSl} (h : LdSlsIn w g ss) {n : Nat} (hn : n = ss.length) (hn3 : n ≤ 10) (hsz : (ldall ss).length ≤ 100000) :
    Calls Try.prog 32 #[.slice (some ⟨g, 0, none⟩) n n] w (RetLd w (ldall ss)) := by
  have H := Lib.hid h; clear h
  have HN := Lib.hid hn; clear hn
  have HS := Lib.hid hsz; clear hsz
  go_enter Try.func32, Try.ntmps32
  go_wp2
  go_loop [3, 11] (fun s i => ∃ k : Nat, k ≤ n ∧ i = .int .i64 k ∧ s = .int .i64 ((ldall (ss.take k)).length : Nat)) (fun _ i => n - (intOf i).toNat)
  case atStart => exact ⟨0, Nat.zero_le _, rfl, rfl⟩
  case round =>
    obtain ⟨k, hk, rfl, rfl⟩ := hrel
    by_cases hlt : k < n
    · obtain ⟨c0, s1, s2, s3, s4⟩ := H.out k (by have := HN.out; omega)
      have st := ldall_take (ss := ss) (k := k) (by have := HN.out; omega)
      have le1 := ldall_take_le ss (k + 1)
      have le2 := HS.out
      rw [st, List.length_append] at le1
      have st2 : (ldall (ss.take (k + 1))).length = (ldall (ss.take k)).length + (ss.getD k default).l.length := by rw [st, List.length_append]
      obtain ⟨m, hm⟩ : ∃ m, m = (ldall (ss.take k)).length := ⟨_, rfl⟩
      obtain ⟨s, hs⟩ : ∃ s, s = ss.getD k default := ⟨_, rfl⟩
      rw [← hs] at c0 s1 s2 s3 s4 le1 st2
      rw [← hm] at le1 st2 ⊢
      have ST := Lib.hid st2
      have hmb : m + s.l.length ≤ 100000 := by omega
      clear s1 s2 st st2 hm hs le1 le2
      obtain ⟨sa, sc, sl⟩ := s
      simp only at c0 s3 s4 ST hmb
      have hlt' : (k : Int) < (n : Int) := by omega
      have hneg : ¬ ((m : Int) + (sl.length : Int) < 0) := by omega
      go_wp2
      go_round
      case rel => exact ⟨k + 1, by omega, by go_num, ldint_eq (by rw [ST.out]; omega)⟩
      case measure => simp [intOf]; omega
    · obtain rfl : k = n := by omega
      have eall : ldall (ss.take k) = ldall ss := by rw [List.take_of_length_le (by have := HN.out; omega)]
      rw [eall]
      obtain ⟨m, hm⟩ : ∃ m, m = (ldall ss).length := ⟨_, rfl⟩
      rw [← hm]
      have hm1 : m ≤ 100000 := by have := HS.out; omega
      have HM := Lib.hid hm; clear hm eall
      go_wp2_with fail
      refine (ldgrow_any m w hm1).mono ?_
      rintro e w1 ⟨a1, c1, rfl, ho, hf⟩
      have HO := Lib.hid ho; clear ho
      have HF := Lib.hid hf; clear hf
      clear hlt hk
      go_wp2
      go_loopw [6, 27] (fun v i wr => CatLd w w.heap.size ss k v i wr) (fun _ i _ => k - (intOf i).toNat)
      case atStart => exact ⟨0, a1, c1, Nat.zero_le _, rfl, rfl, HO.out, HF.out⟩
      case round =>
        obtain ⟨j, aj, cj, hj, rfl, rfl, hown, hf⟩ := hrel
        have HFJ := Lib.hid hf; clear hf
        have HOJ := Lib.hid hown; clear hown
        by_cases hlt : j < k
        · obtain ⟨c0, s1, s2, s3, s4⟩ := (H.out.keep HFJ.out) j (by have := HN.out; omega)
          have st := ldall_take (ss := ss) (k := j) (by have := HN.out; omega)
          have le1 := ldall_take_le ss (j + 1)
          have le2 := HS.out
          rw [st, List.length_append] at le1
          obtain ⟨s, hs⟩ : ∃ s, s = ss.getD j default := ⟨_, rfl⟩
          rw [← hs] at c0 s1 s2 s3 s4 le1 st
          obtain ⟨lj, hlj⟩ : ∃ lj, lj = ldall (ss.take j) := ⟨_, rfl⟩
          rw [← hlj] at le1 st HOJ ⊢
          obtain ⟨sa, sc, sl⟩ := s
          simp only at c0 s1 s2 s3 s4 le1 st
          have ST := Lib.hid st
          have S1 := Lib.hid s1
          have S2 := Lib.hid s2
          clear st hlj hs s1 s2
          have hlt' : (j : Int) < (k : Int) := by omega
          obtain ⟨i0, hi, hz0, hz1, hz2⟩ := info_parts infoLd
          have HI := Lib.hid hi; clear hi
          have HZ0 := Lib.hid hz0; clear hz0
          have HZ1 := Lib.hid hz1; clear hz1
          have HZ2 := Lib.hid hz2; clear hz2
          have hbz : w.heap.size ≤ wr.heap.size := HFJ.out.size
          obtain ⟨nj, hnj⟩ : ∃ nj, nj = lj.length := ⟨_, rfl⟩
          obtain ⟨ns, hns⟩ : ∃ ns, ns = sl.length := ⟨_, rfl⟩
          rw [← hns] at c0 s3 le1
          rw [← hnj] at le1 ⊢
          have HLX : Hid ((ldc sl).length = ns * 3) := Lib.hid (by rw [ldc_length, hns])
          have HNJ := Lib.hid hnj; clear hnj
          have HNS := Lib.hid hns; clear hns
          have hfit : nj + ns ≤ 1000000000 := by omega
          have OWN : Hid (wr.ownsRow w.heap.size 32 3 (.slice aj nj cj) nj (ldc lj)) := Lib.hid (by rw [HNJ.out]; exact HOJ.out.own)
          go_wp2_with (at_builtin; refine wpList_appS (by rfl) (.tmp 31) (.tmp 32) 22 rfl w.heap.size 32 i0 (.agg #[.int .u64 0, .bool false, .int .u64 0]) 3 24 Try.underlying22 HI.out HZ0.out rfl (by decide) HZ1.out HZ2.out (by decide) (.slice aj nj cj) nj _ rfl OWN.out _ ns sc _ rfl S1.out.vals HLX.out (ldc_one _) S2.out hfit hbz ?_)
          intro a2 c2 w2 happ
          have g3 := HOJ.out.app HNJ.out S1.out.fits HNS.out (by simp) happ
          have HF2 : Hid (Frm [] w w2) := Lib.hid (HFJ.out.trans g3.2.1 (by simp) (fun x hx => .inr (HOJ.out.blk_lt x hx).1))
          have HO2 := Lib.hid g3.1
          have E2 := Lib.hid g3.2.2.2
          clear happ g3 hbz OWN
          go_wp2
          go_roundw
          case rel => exact ⟨j + 1, a2, c2, by omega, by go_num, by rw [ST.out, ← E2.out], by rw [ST.out]; exact HO2.out, HF2.out⟩
          case measure => simp [intOf]; omega
        · obtain rfl : j = k := by omega
          have eall : ldall (ss.take j) = ldall ss := by rw [List.take_of_length_le (by have := HN.out; omega)]
          rw [eall] at HOJ ⊢
          have FIN : Hid (RetLd w (ldall ss) (.returned (.slice aj (ldall ss).length cj)) wr) := ⟨aj, cj, rfl, HOJ.out, HFJ.out⟩
          clear eall
          go_wp2
          go_ret
          exact FIN.out
end Go.Proofs.Ytimmoencmmpkdaa
