/- Contracts of slices.Grow (of nil) and slices.Concat over slices of nodes' pointers. -/
import Derived.Test.YtchhbmhnjknhaaaTrBase
import Derived.Lib.AppendZerosOnto
import Derived.Lib.Walk
import Derived.Lib.SliceRun
namespace Go.Proofs.Ytchhbmhnjknhaaa
open Go.RowKit

theorem Try.info71 : (Try.prog.info? 71).map (fun i => (i.zero, i.size, i.bytes)) = some (some (.pointer none), 1, 8) := by kernel_rfl

/-- A row of the call's own of nodes' pointers. -/
def OwnP (w : World) (base : Nat) (a : Option Addr) (cap : Nat) (l : List Value) : Prop := w.ownsRow base 71 1 (.slice a l.length cap) l.length l
theorem OwnP.nil (w : World) (base : Nat) : OwnP w base none 0 [] := World.ownsRow_nil _ _ _ _
theorem OwnP.lt {w : World} {base : Nat} {a : Option Addr} {cap : Nat} {l : List Value} (h : OwnP w base a cap l) : ∀ x, a = some x → base ≤ x.block ∧ x.block < w.heap.size := fun x hx => World.ownsRow.lt h x.block (by rw [hx]; rfl)
theorem OwnP.caps {w : World} {base : Nat} {a : Option Addr} {cap : Nat} {l : List Value} (h : OwnP w base a cap l) : l.length ≤ cap ∧ cap ≤ maxLen ∧ (a = none → cap = 0) := by
  rcases h.2 with ⟨hv, hl⟩ | ⟨g, c, cur, hv, _, _, h1, h2, _⟩
  · simp only [Value.slice.injEq] at hv
    rw [hl, hv.2.2]; exact ⟨Nat.le_refl _, Nat.zero_le _, fun _ => rfl⟩
  · simp only [Value.slice.injEq] at hv
    obtain ⟨rfl, _, rfl⟩ := hv
    exact ⟨h1, h2, fun h => by cases h⟩
theorem OwnP.vals {w : World} {base : Nat} {a : Option Addr} {cap : Nat} {l : List Value} (h : OwnP w base a cap l) : ValsAt w a l := by
  have hh : w.ownsRow base 71 1 (.slice a l.length cap) l.length l := h
  rcases hh.2 with ⟨_, hl⟩ | ⟨g, c, cur, hv, _⟩
  · exact .inl (List.eq_nil_of_length_eq_zero hl)
  · simp only [Value.slice.injEq] at hv
    obtain ⟨rfl, _, rfl⟩ := hv
    refine .inr ⟨g, 0, rfl, fun i u hu => ?_⟩
    have hi : i < l.length := by
      rcases Nat.lt_or_ge i l.length with h' | h'
      · exact h'
      · rw [List.getElem?_eq_none h'] at hu; cases hu
    rw [Nat.zero_add, hh.cellAt i (by omega)]
    exact hu
theorem OwnP.keep {w w' : World} {base : Nat} {a : Option Addr} {cap : Nat} {l : List Value} {S : List Nat} (h : OwnP w base a cap l) (hf : Frm S w w') (hn : ∀ x, a = some x → x.block ∉ S) : OwnP w' base a cap l :=
  hf.own h (fun g hg => by
    cases a with
    | none => simp [Value.ownBlock] at hg
    | some x => simp only [Value.ownBlock, Option.some.injEq] at hg; subst hg; exact hn x rfl)

/-- A row with no element yet. -/
def GrowP (w : World) (e : Ending) (w' : World) : Prop := ∃ a' cap', e = .returned (.slice a' 0 cap') ∧ OwnP w' w.heap.size a' cap' [] ∧ Frm [] w w'

set_option maxHeartbeats 1000000 in
theorem growP_any (n : Nat) (w : World) (hn : n ≤ 100000) : Calls Try.prog 51 #[.slice none 0 0, .int .i64 n] w (GrowP w) := by
  by_cases h0 : n = 0
  · subst h0
    go_enter Try.func51, Try.ntmps51
    go_wp2
    go_ret
    exact ⟨none, 0, rfl, OwnP.nil _ _, Frm.refl _ _⟩
  · obtain ⟨i0, hi, hz0, hz1, hz2⟩ := info_parts Try.info71
    have h1 : ¬ ((n : Int) < 0) := by omega
    have h4 : 0 < (n : Int) := by omega
    have hold : (Builtin.firstCells i0.size 0 (.slice none 0 0)).run Try.prog w.drew = .ok ([] : List Value).toArray w.drew := run_firstCells_none w.drew i0.size 0 0 0
    have hrz : ∀ ty, (Builtin.append_ #[63, 3] ty #[.slice none 0 0, .int .i64 (n : Int)]).run Try.prog w =
        .ok (.slice (some ⟨w.heap.size, 0, none⟩) n (grownCap w n 0 71)) (w.drew.alloc (.cells (#[] ++ Builtin.zeroCells #[.pointer none] n ++ Builtin.zeroCells #[.pointer none] (grownCap w n 0 71 - n)) 71)) := fun ty => by
      have h := Lib.run_append_grow_zeros w 63 3 ty 71 i0 (.pointer none) .i64 .i64 Try.underlying63 Try.underlying3 hi hz0 none 0 0 [] hold n (by omega) (by omega) (by omega) (by omega)
        (by rw [hz2]; omega)
        (by rw [hz2, Nat.zero_add]; exact growslice_fits (by omega) (by omega))
      rw [Nat.zero_add] at h
      exact h
    have hGn : n ≤ grownCap w n 0 71 := grownCap_ge w _ _ _
    have hGm := grownCap_le_maxLen w n 0 71 (by unfold maxLen; omega)
    obtain ⟨G, hG⟩ : ∃ G, G = grownCap w n 0 71 := ⟨_, rfl⟩
    rw [← hG] at hrz hGn hGm
    have hG63 : G ≤ 9223372036854775807 := by unfold maxLen at hGm; omega
    have hsz : (Builtin.zeroCells #[.pointer none] n ++ Builtin.zeroCells #[.pointer none] (G - n)).size = G * 1 := by
      rw [Array.size_append, size_zeroCells, size_zeroCells]
      show n * 1 + (G - n) * 1 = G * 1
      omega
    have HO : Hid (OwnP (w.alloc (.cells (Builtin.zeroCells #[.pointer none] n ++ Builtin.zeroCells #[.pointer none] (G - n)) 71)).drew w.heap.size (some ⟨w.heap.size, 0, none⟩) G []) := by
      have := World.ownsRow_made (base := w.heap.size) (e := 71) (size := 1) w.drew (Builtin.zeroCells #[.pointer none] n ++ Builtin.zeroCells #[.pointer none] (G - n)) G (Nat.le_refl _) hGm hsz
      exact this
    have HF : Hid (Frm [] w (w.alloc (.cells (Builtin.zeroCells #[.pointer none] n ++ Builtin.zeroCells #[.pointer none] (G - n)) 71)).drew) := ((Frm.refl _ _).alloc _).drew
    simp only [Array.empty_append] at hrz
    clear hold hG hsz hi hz0 hz1 hz2 h0 hGm
    go_enter Try.func51, Try.ntmps51
    go_wp2_with (at_builtin; refine Lib.wpList_append_run _ rfl _ _ _ _ rfl _ _ rfl rfl _ _ (hrz _) ?_)
    all_goals
      go_ret
      exact ⟨_, _, rfl, HO.out, HF.out⟩

/-- One of the slices that are joined. -/
structure PSl where
  a : Option Addr
  cap : Nat
  l : List Value
instance : Inhabited PSl := ⟨⟨none, 0, []⟩⟩
def PSlIn (w : World) (s : PSl) : Prop := ValsAt w s.a s.l ∧ (s.a = none → s.cap = 0) ∧ s.l.length ≤ s.cap ∧ s.cap ≤ 9223372036854775807 ∧ ∀ u ∈ s.l, u.oneCell' = true
theorem PSlIn.keep {w w' : World} {s : PSl} (h : PSlIn w s) (hf : Frm [] w w') : PSlIn w' s := ⟨h.1.keep hf (by simp), h.2⟩
def pall (ss : List PSl) : List Value := ss.flatMap PSl.l
theorem pall_take {ss : List PSl} {k : Nat} (h : k < ss.length) : pall (ss.take (k + 1)) = pall (ss.take k) ++ (ss.getD k default).l := by
  have e : ss.getD k default = ss[k] := by simp [h]
  unfold pall
  rw [e, List.take_succ_eq_append_getElem h, List.flatMap_append, List.flatMap_singleton]
theorem pall_take_le (ss : List PSl) (k : Nat) : (pall (ss.take k)).length ≤ (pall ss).length := by
  have h : pall (ss.take k) ++ pall (ss.drop k) = pall ss := by unfold pall; rw [← List.flatMap_append, List.take_append_drop]
  have := congrArg List.length h
  rw [List.length_append] at this
  omega
/-- Slices that lie side by side. -/
def PSlsIn (w : World) (g : Nat) (ss : List PSl) : Prop := ∀ k, k < ss.length → w.cell? ⟨g, k, none⟩ = some (.slice (ss.getD k default).a (ss.getD k default).l.length (ss.getD k default).cap) ∧ PSlIn w (ss.getD k default)
theorem PSlsIn.keep {w w' : World} {g : Nat} {ss : List PSl} (h : PSlsIn w g ss) (hf : Frm [] w w') : PSlsIn w' g ss := fun k hk =>
  ⟨(hf.cell (p := ⟨g, k, none⟩) (block_lt_of_cell (h k hk).1) (by simp)).trans (h k hk).1, (h k hk).2.keep hf⟩

def RetP (w : World) (l : List Value) (e : Ending) (w' : World) : Prop := ∃ a' cap', e = .returned (.slice a' l.length cap') ∧ OwnP w' w.heap.size a' cap' l ∧ Frm [] w w'
def CatPRel (w0 : World) (base : Nat) (ss : List PSl) (n : Nat) (v i : Value) (wr : World) : Prop :=
  ∃ (k : Nat) (a : Option Addr) (cap : Nat), k ≤ n ∧ i = .int .i64 k ∧ v = .slice a (pall (ss.take k)).length cap ∧ OwnP wr base a cap (pall (ss.take k)) ∧ Frm [] w0 wr

set_option maxHeartbeats 2000000 in
theorem concatP_any {w : World} {g : Nat} {ss : List PSl} (h : PSlsIn w g ss) {n : Nat} (hn : n = ss.length) (hn3 : n ≤ 10) (hsz : (pall ss).length ≤ 100000) :
    Calls Try.prog 33 #[.slice (some ⟨g, 0, none⟩) n n] w (RetP w (pall ss)) := by
  have H := Lib.hid h; clear h
  have HN := Lib.hid hn; clear hn
  have HS := Lib.hid hsz; clear hsz
  go_enter Try.func33, Try.ntmps33
  go_wp2
  go_loop [3, 11] (fun s i => ∃ k : Nat, k ≤ n ∧ i = .int .i64 k ∧ s = .int .i64 ((pall (ss.take k)).length : Nat)) (fun _ i => n - (intOf i).toNat)
  case atStart => exact ⟨0, Nat.zero_le _, rfl, rfl⟩
  case round =>
    obtain ⟨k, hk, rfl, rfl⟩ := hrel
    by_cases hlt : k < n
    · obtain ⟨c0, s1, s2, s3, s4, s5⟩ := H.out k (by have := HN.out; omega)
      have st := pall_take (ss := ss) (k := k) (by have := HN.out; omega)
      have le1 := pall_take_le ss (k + 1)
      have le2 := HS.out
      rw [st, List.length_append] at le1
      have st2 : (pall (ss.take (k + 1))).length = (pall (ss.take k)).length + (ss.getD k default).l.length := by rw [st, List.length_append]
      obtain ⟨m, hm⟩ : ∃ m, m = (pall (ss.take k)).length := ⟨_, rfl⟩
      obtain ⟨s, hs⟩ : ∃ s, s = ss.getD k default := ⟨_, rfl⟩
      rw [← hs] at c0 s1 s2 s3 s4 s5 le1 st2
      rw [← hm] at le1 st2 ⊢
      have ST := Lib.hid st2
      have hmb : m + s.l.length ≤ 100000 := by omega
      clear s1 s2 s5 st st2 hm hs le1 le2
      obtain ⟨sa, sc, sl⟩ := s
      simp only at c0 s3 s4 ST hmb
      have hlt' : (k : Int) < (n : Int) := by omega
      have hneg : ¬ ((m : Int) + (sl.length : Int) < 0) := by omega
      go_wp2
      go_round
      case rel => exact ⟨k + 1, by omega, by go_num, same_int (by rw [ST.out]; omega)⟩
      case measure => simp [intOf]; omega
    · obtain rfl : k = n := by omega
      have eall : pall (ss.take k) = pall ss := by rw [List.take_of_length_le (by have := HN.out; omega)]
      rw [eall]
      obtain ⟨m, hm⟩ : ∃ m, m = (pall ss).length := ⟨_, rfl⟩
      rw [← hm]
      have hm1 : m ≤ 100000 := by have := HS.out; omega
      have HM := Lib.hid hm; clear hm eall
      go_wp2_with fail
      refine (growP_any m w hm1).mono ?_
      rintro e w1 ⟨a1, c1, rfl, ho, hf⟩
      have HO := Lib.hid ho; clear ho
      have HF := Lib.hid hf; clear hf
      clear hlt hk
      go_wp2
      go_loopw [6, 27] (fun v i wr => CatPRel w w.heap.size ss k v i wr) (fun _ i _ => k - (intOf i).toNat)
      case atStart => exact ⟨0, a1, c1, Nat.zero_le _, rfl, rfl, HO.out, HF.out⟩
      case round =>
        obtain ⟨j, aj, cj, hj, rfl, rfl, hown, hf⟩ := hrel
        have HFJ := Lib.hid hf; clear hf
        have HOJ := Lib.hid hown; clear hown
        by_cases hlt : j < k
        · obtain ⟨c0, s1, s2, s3, s4, s5⟩ := (H.out.keep HFJ.out) j (by have := HN.out; omega)
          have st := pall_take (ss := ss) (k := j) (by have := HN.out; omega)
          have le1 := pall_take_le ss (j + 1)
          have le2 := HS.out
          rw [st, List.length_append] at le1
          obtain ⟨s, hs⟩ : ∃ s, s = ss.getD j default := ⟨_, rfl⟩
          rw [← hs] at c0 s1 s2 s3 s4 s5 le1 st
          obtain ⟨lj, hlj⟩ : ∃ lj, lj = pall (ss.take j) := ⟨_, rfl⟩
          rw [← hlj] at le1 st HOJ ⊢
          obtain ⟨sa, sc, sl⟩ := s
          simp only at c0 s1 s2 s3 s4 s5 le1 st
          have ST := Lib.hid st
          have S1 := Lib.hid s1
          have S2 := Lib.hid s2
          have S5 := Lib.hid s5
          clear st hlj hs s1 s2 s5
          have hlt' : (j : Int) < (k : Int) := by omega
          obtain ⟨i0, hi, hz0, hz1, hz2⟩ := info_parts Try.info71
          have HI := Lib.hid hi; clear hi
          have HZ0 := Lib.hid hz0; clear hz0
          have HZ1 := Lib.hid hz1; clear hz1
          have HZ2 := Lib.hid hz2; clear hz2
          have hbz : w.heap.size ≤ wr.heap.size := HFJ.out.size
          obtain ⟨nj, hnj⟩ : ∃ nj, nj = lj.length := ⟨_, rfl⟩
          obtain ⟨ns, hns⟩ : ∃ ns, ns = sl.length := ⟨_, rfl⟩
          rw [← hns] at c0 s3 le1
          rw [← hnj] at le1 ⊢
          have HNJ := Lib.hid hnj; clear hnj
          have HNS := Lib.hid hns; clear hns
          have hfit1 : nj + ns ≤ 1000000000 := by omega
          have hown1 : wr.ownsRow w.heap.size 71 1 (.slice aj nj cj) nj lj := by rw [HNJ.out]; exact HOJ.out
          have HOWN1 := Lib.hid hown1; clear hown1
          go_wp2_with (at_builtin; refine wpList_appV rfl (.tmp 31) (.tmp 32) 63 rfl w.heap.size 71 i0 (.pointer none) 8 Try.underlying63 HI.out HZ0.out rfl HZ1.out HZ2.out (by decide) _ nj lj rfl HOWN1.out _ _ _ sl rfl S1.out HNS.out S5.out S2.out hfit1 hbz ?_)
          intro a2 c2 w2 happ
          have HF2 := Lib.hid (HFJ.out.grown happ.grown (fun g hg => .inr (by
            cases aj with
            | none => simp [Value.ownBlock] at hg
            | some x => simp only [Value.ownBlock, Option.some.injEq] at hg; subst hg; exact (HOJ.out.lt x rfl).1)))
          have ho2 : OwnP w2 w.heap.size a2 c2 (lj ++ sl) := by
            have h1 := happ.own
            rw [HNJ.out, HNS.out] at h1
            unfold OwnP
            rw [List.length_append]; exact h1
          have HO2 := Lib.hid ho2
          clear happ ho2 hbz
          go_wp2
          go_roundw
          case rel => exact ⟨j + 1, a2, c2, by omega, by go_num, by rw [ST.out, List.length_append, ← HNJ.out, ← HNS.out], by rw [ST.out]; exact HO2.out, HF2.out⟩
          case measure => simp [intOf]; omega
        · obtain rfl : j = k := by omega
          have eall : pall (ss.take j) = pall ss := by rw [List.take_of_length_le (by have := HN.out; omega)]
          rw [eall] at HOJ ⊢
          have FIN : Hid (RetP w (pall ss) (.returned (.slice aj (pall ss).length cj)) wr) := ⟨aj, cj, rfl, HOJ.out, HFJ.out⟩
          clear eall
          go_wp2
          go_ret
          exact FIN.out
end Go.Proofs.Ytchhbmhnjknhaaa
