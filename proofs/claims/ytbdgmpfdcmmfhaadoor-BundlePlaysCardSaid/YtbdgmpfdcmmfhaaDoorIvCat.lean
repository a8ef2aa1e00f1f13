/- Contracts of slices.Grow (of nil) and slices.Concat over ints. -/
import Derived.Test.YtbdgmpfdcmmfhaaDoorMpAll
import Derived.Lib.AppendZerosOnto
import Derived.Lib.Walk
import Derived.Lib.SliceRun
namespace Go.Proofs.YtbdgmpfdcmmfhaaDoor
open Go.RowKit
set_option maxRecDepth 100000

/-- More are appended. -/
theorem IvOwn.apps {w w' : World} {base : Nat} {e : TypeId} {F : List Nat} {a : Option Addr} {cap : Nat} {X : List Nat} {n m : Nat} {Y : List Nat} {a' : Option Addr} {cap' : Nat} (h : IvOwn w base e F a cap X) (hn : n = X.length) (hm : m = Y.length) (hF : ∀ x ∈ F, x < w.heap.size)
    (ha : AppS w w' base e 1 (.slice a n cap) n m (ivs X) (ivs Y) a' cap') : IvOwn w' base e F a' cap' (X ++ Y) ∧ Frm (blk a) w w' ∧ (∀ g ∈ blk a', g ∈ blk a ∨ w.heap.size ≤ g) ∧ n + m = (X ++ Y).length := by
  subst hn; subst hm
  have hf : Frm (blk a) w w' := (Frm.refl _ _).grown ha.grown (fun g hg => .inl (ownBlk3.1 hg))
  have hp : ∀ g ∈ blk a', g ∈ blk a ∨ w.heap.size ≤ g := by
    intro g hg
    have hg' : (Value.slice a' (X.length + Y.length) cap').ownBlock = some g := ownBlk3.2 hg
    rcases ha.place with h1 | h1
    · exact .inl (ownBlk3.1 (h1 ▸ hg'))
    · rw [hg'] at h1
      cases h1
      exact .inr (Nat.le_refl _)
  refine ⟨⟨?_, fun g hg hm => ?_⟩, hf, hp, by simp⟩
  · have := ha.own
    rwa [← ivs_append, ← List.length_append] at this
  · rcases hp g hg with h1 | h1
    · exact h.away g h1 hm
    · have := hF g hm; omega

set_option maxHeartbeats 1000000 in
theorem ivgrow_any (n : Nat) (w : World) (hn : n ≤ 100000) : Calls Tryd.prog 31 #[.slice none 0 0, .int .i64 n] w fun e w' => ∃ a' cap', e = .returned (.slice a' 0 cap') ∧ IvOwn w' w.heap.size 3 [] a' cap' [] ∧ Frm [] w w' := by
  by_cases h0 : n = 0
  · subst h0
    go_enter Tryd.func31, Tryd.ntmps31
    go_wp2
    go_ret
    exact ⟨none, 0, rfl, IvOwn.nil _ _ _ _, Frm.refl _ _⟩
  · obtain ⟨i0, hi, hz0, hz1, hz2⟩ := info_parts infoI
    have h1 : ¬ ((n : Int) < 0) := by omega
    have h4 : 0 < (n : Int) := by omega
    have hold : (Builtin.firstCells i0.size 0 (.slice none 0 0)).run Tryd.prog w.drew = .ok ([] : List Value).toArray w.drew := run_firstCells_none w.drew i0.size 0 0 0
    have hrz : ∀ ty, (Builtin.append_ #[23, 3] ty #[.slice none 0 0, .int .i64 (n : Int)]).run Tryd.prog w =
        .ok (.slice (some ⟨w.heap.size, 0, none⟩) n (grownCap w n 0 3)) (w.drew.alloc (.cells (#[] ++ Builtin.zeroCells #[.int .i64 0] n ++ Builtin.zeroCells #[.int .i64 0] (grownCap w n 0 3 - n)) 3)) := fun ty => by
      have h := Lib.run_append_grow_zeros w 23 3 ty 3 i0 (.int .i64 0) .i64 .i64 Tryd.underlying23 Tryd.underlying3 hi hz0 none 0 0 [] hold n (by omega) (by omega) (by omega) (by omega)
        (by rw [hz2]; omega)
        (by rw [hz2, Nat.zero_add]; exact growslice_fits (by omega) (by omega))
      rw [Nat.zero_add] at h
      exact h
    have hGn : n ≤ grownCap w n 0 3 := grownCap_ge w _ _ _
    have hGm := grownCap_le_maxLen w n 0 3 (by unfold maxLen; omega)
    obtain ⟨G, hG⟩ : ∃ G, G = grownCap w n 0 3 := ⟨_, rfl⟩
    rw [← hG] at hrz hGn hGm
    have hG63 : G ≤ 9223372036854775807 := by unfold maxLen at hGm; omega
    have hsz : (Builtin.zeroCells #[.int .i64 0] n ++ Builtin.zeroCells #[.int .i64 0] (G - n)).size = G * 1 := by
      rw [Array.size_append, size_zeroCells, size_zeroCells]
      show n * 1 + (G - n) * 1 = G * 1
      omega
    have HO : Hid (IvOwn (w.alloc (.cells (Builtin.zeroCells #[.int .i64 0] n ++ Builtin.zeroCells #[.int .i64 0] (G - n)) 3)).drew w.heap.size 3 [] (some ⟨w.heap.size, 0, none⟩) G []) := Lib.hid ⟨by
      have := World.ownsRow_made (base := w.heap.size) (e := 3) (size := 1) w.drew (Builtin.zeroCells #[.int .i64 0] n ++ Builtin.zeroCells #[.int .i64 0] (G - n)) G (Nat.le_refl _) hGm hsz
      exact this, by simp⟩
    have HF : Hid (Frm [] w (w.alloc (.cells (Builtin.zeroCells #[.int .i64 0] n ++ Builtin.zeroCells #[.int .i64 0] (G - n)) 3)).drew) := ((Frm.refl _ _).alloc _).drew
    simp only [Array.empty_append] at hrz
    clear hold hG hsz hi hz0 hz1 hz2 h0 hGm
    go_enter Tryd.func31, Tryd.ntmps31
    go_wp2_with (at_builtin; refine Lib.wpList_append_run _ rfl _ _ _ _ rfl _ _ rfl rfl _ _ (hrz _) ?_)
    all_goals
      go_ret
      exact ⟨_, _, rfl, HO.out, HF.out⟩

/-- What a call hands back that makes ints of its own. -/
def RetIv (w : World) (Y : List Nat) (e : Ending) (w' : World) : Prop := ∃ a' cap', e = .returned (.slice a' Y.length cap') ∧ IvOwn w' w.heap.size 3 [] a' cap' Y ∧ Frm [] w w'

/-- One of the slices that are joined. -/
structure IvSl where
  a : Option Addr
  cap : Nat
  l : List Nat
instance : Inhabited IvSl := ⟨⟨none, 0, []⟩⟩
def IvSlIn (w : World) (s : IvSl) : Prop := IvL w [] s.a s.l ∧ (s.a = none → s.cap = 0) ∧ s.l.length ≤ s.cap ∧ s.cap ≤ 9223372036854775807
theorem IvSlIn.keep {w w' : World} {s : IvSl} (h : IvSlIn w s) (hf : Frm [] w w') : IvSlIn w' s := ⟨h.1.sub hf, h.2⟩
def ivall (ss : List IvSl) : List Nat := ss.flatMap IvSl.l
theorem ivall_take {ss : List IvSl} {k : Nat} (h : k < ss.length) : ivall (ss.take (k + 1)) = ivall (ss.take k) ++ (ss.getD k default).l := by
  have e : ss.getD k default = ss[k] := by simp [h]
  unfold ivall
  rw [e, List.take_succ_eq_append_getElem h, List.flatMap_append, List.flatMap_singleton]
theorem ivall_take_le (ss : List IvSl) (k : Nat) : (ivall (ss.take k)).length ≤ (ivall ss).length := by
  have h : ivall (ss.take k) ++ ivall (ss.drop k) = ivall ss := by unfold ivall; rw [← List.flatMap_append, List.take_append_drop]
  have := congrArg List.length h
  rw [List.length_append] at this
  omega
/-- Slices that lie side by side. -/
def IvSlsIn (w : World) (g : Nat) (ss : List IvSl) : Prop := ∀ k, k < ss.length → w.cell? ⟨g, k, none⟩ = some (.slice (ss.getD k default).a (ss.getD k default).l.length (ss.getD k default).cap) ∧ IvSlIn w (ss.getD k default)
theorem IvSlsIn.keep {w w' : World} {g : Nat} {ss : List IvSl} (h : IvSlsIn w g ss) (hf : Frm [] w w') : IvSlsIn w' g ss := fun k hk =>
  ⟨(hf.cell (p := ⟨g, k, none⟩) (block_lt_of_cell (h k hk).1) (by simp)).trans (h k hk).1, (h k hk).2.keep hf⟩
theorem ivint_eq {k : IntKind} {a b : Int} (h : a = b) : Value.int k a = Value.int k b := by rw [h]
def CatIv (w0 : World) (base : Nat) (ss : List IvSl) (n : Nat) (v i : Value) (wr : World) : Prop :=
  ∃ (k : Nat) (a : Option Addr) (cap : Nat), k ≤ n ∧ i = .int .i64 k ∧ v = .slice a (ivall (ss.take k)).length cap ∧ IvOwn wr base 3 [] a cap (ivall (ss.take k)) ∧ Frm [] w0 wr

set_option maxHeartbeats 2000000 in
theorem ivconcat_any {w : World} {g : Nat} {ss : List IvSl} (h : IvSlsIn w g ss) {n : Nat} (hn : n = ss.length) (hn3 : n ≤ 10) (hsz : (ivall ss).length ≤ 100000) :
    Calls Tryd.prog 25 #[.slice (some ⟨g, 0, none⟩) n n] w (RetIv w (ivall ss)) := by
  have H := Lib.hid h; clear h
  have HN := Lib.hid hn; clear hn
  have HS := Lib.hid hsz; clear hsz
  go_enter Tryd.func25, Tryd.ntmps25
  go_wp2
  go_loop [3, 11] (fun s i => ∃ k : Nat, k ≤ n ∧ i = .int .i64 k ∧ s = .int .i64 ((ivall (ss.take k)).length : Nat)) (fun _ i => n - (intOf i).toNat)
  case atStart => exact ⟨0, Nat.zero_le _, rfl, rfl⟩
  case round =>
    obtain ⟨k, hk, rfl, rfl⟩ := hrel
    by_cases hlt : k < n
    · obtain ⟨c0, s1, s2, s3, s4⟩ := H.out k (by have := HN.out; omega)
      have st := ivall_take (ss := ss) (k := k) (by have := HN.out; omega)
      have le1 := ivall_take_le ss (k + 1)
      have le2 := HS.out
      rw [st, List.length_append] at le1
      have st2 : (ivall (ss.take (k + 1))).length = (ivall (ss.take k)).length + (ss.getD k default).l.length := by rw [st, List.length_append]
      obtain ⟨m, hm⟩ : ∃ m, m = (ivall (ss.take k)).length := ⟨_, rfl⟩
      obtain ⟨s, hs⟩ : ∃ s, s = ss.getD k default := ⟨_, rfl⟩
      rw [← hs] at c0 s1 s2 s3 s4 le1 st2
      rw [← hm] at le1 st2 ⊢
      have ST := Lib.hid st2
      have hmb : m + s.l.length ≤ 100000 := by omega
      clear s1 s2 st st2 hm hs le1 le2
      obtain ⟨sa, sc, sl⟩ := s
      simp only at c0 s3 s4 ST hmb
      have hlt' : (k : Int) < (n : Int) := by omega
      have hneg : ¬ ((m : Int) + (sl.length : Int) < 0) := by omega
      go_wp2
      go_round
      case rel => exact ⟨k + 1, by omega, by go_num, ivint_eq (by rw [ST.out]; omega)⟩
      case measure => simp [intOf]; omega
    · obtain rfl : k = n := by omega
      have eall : ivall (ss.take k) = ivall ss := by rw [List.take_of_length_le (by have := HN.out; omega)]
      rw [eall]
      obtain ⟨m, hm⟩ : ∃ m, m = (ivall ss).length := ⟨_, rfl⟩
      rw [← hm]
      have hm1 : m ≤ 100000 := by have := HS.out; omega
      have HM := Lib.hid hm; clear hm eall
      go_wp2_with fail
      refine (ivgrow_any m w hm1).mono ?_
      rintro e w1 ⟨a1, c1, rfl, ho, hf⟩
      have HO := Lib.hid ho; clear ho
      have HF := Lib.hid hf; clear hf
      clear hlt hk
      go_wp2
      go_loopw [6, 27] (fun v i wr => CatIv w w.heap.size ss k v i wr) (fun _ i _ => k - (intOf i).toNat)
      case atStart => exact ⟨0, a1, c1, Nat.zero_le _, rfl, rfl, HO.out, HF.out⟩
      case round =>
        obtain ⟨j, aj, cj, hj, rfl, rfl, hown, hf⟩ := hrel
        have HFJ := Lib.hid hf; clear hf
        have HOJ := Lib.hid hown; clear hown
        by_cases hlt : j < k
        · obtain ⟨c0, s1, s2, s3, s4⟩ := (H.out.keep HFJ.out) j (by have := HN.out; omega)
          have st := ivall_take (ss := ss) (k := j) (by have := HN.out; omega)
          have le1 := ivall_take_le ss (j + 1)
          have le2 := HS.out
          rw [st, List.length_append] at le1
          obtain ⟨s, hs⟩ : ∃ s, s = ss.getD j default := ⟨_, rfl⟩
          rw [← hs] at c0 s1 s2 s3 s4 le1 st
          obtain ⟨lj, hlj⟩ : ∃ lj, lj = ivall (ss.take j) := ⟨_, rfl⟩
          rw [← hlj] at le1 st HOJ ⊢
          obtain ⟨sa, sc, sl⟩ := s
          simp only at c0 s1 s2 s3 s4 le1 st
          have ST := Lib.hid st
          have S1 := Lib.hid s1
          have S2 := Lib.hid s2
          clear st hlj hs s1 s2
          have hlt' : (j : Int) < (k : Int) := by omega
          obtain ⟨i0, hi, hz0, hz1, hz2⟩ := info_parts infoI
          have HI := Lib.hid hi; clear hi
          have HZ0 := Lib.hid hz0; clear hz0
          have HZ1 := Lib.hid hz1; clear hz1
          have HZ2 := Lib.hid hz2; clear hz2
          have hbz : w.heap.size ≤ wr.heap.size := HFJ.out.size
          obtain ⟨nj, hnj⟩ : ∃ nj, nj = lj.length := ⟨_, rfl⟩
          obtain ⟨ns, hns⟩ : ∃ ns, ns = sl.length := ⟨_, rfl⟩
          rw [← hns] at c0 s3 le1
          rw [← hnj] at le1 ⊢
          have HLX : Hid ((ivs sl).length = ns * 1) := Lib.hid (by rw [ivs_length, hns, Nat.mul_one])
          have HNJ := Lib.hid hnj; clear hnj
          have HNS := Lib.hid hns; clear hns
          have hfit : nj + ns ≤ 1000000000 := by omega
          have OWN : Hid (wr.ownsRow w.heap.size 3 1 (.slice aj nj cj) nj (ivs lj)) := Lib.hid (by rw [HNJ.out]; exact HOJ.out.own)
          go_wp2_with (at_builtin; refine wpList_appS (by rfl) (.tmp 31) (.tmp 32) 23 rfl w.heap.size 3 i0 (.int .i64 0) 1 8 Tryd.underlying23 HI.out HZ0.out rfl (by decide) HZ1.out HZ2.out (by decide) (.slice aj nj cj) nj _ rfl OWN.out _ ns sc _ rfl S1.out.vals HLX.out (ivs_one _) S2.out hfit hbz ?_)
          intro a2 c2 w2 happ
          have g3 := HOJ.out.apps HNJ.out HNS.out (by simp) happ
          have HF2 : Hid (Frm [] w w2) := Lib.hid (HFJ.out.trans g3.2.1 (by simp) (fun x hx => .inr (HOJ.out.blk_lt x hx).1))
          have HO2 := Lib.hid g3.1
          have E2 := Lib.hid g3.2.2.2
          clear happ g3 hbz OWN
          go_wp2
          go_roundw
          case rel => exact ⟨j + 1, a2, c2, by omega, by go_num, by rw [ST.out, ← E2.out], by rw [ST.out]; exact HO2.out, HF2.out⟩
          case measure => simp [intOf]; omega
        · obtain rfl : j = k := by omega
          have eall : ivall (ss.take j) = ivall ss := by rw [List.take_of_length_le (by have := HN.out; omega)]
          rw [eall] at HOJ ⊢
          have FIN : Hid (RetIv w (ivall ss) (.returned (.slice aj (ivall ss).length cj)) wr) := ⟨aj, cj, rfl, HOJ.out, HFJ.out⟩
          clear eall
          go_wp2
          go_ret
          exact FIN.out
end Go.Proofs.YtbdgmpfdcmmfhaaDoor
