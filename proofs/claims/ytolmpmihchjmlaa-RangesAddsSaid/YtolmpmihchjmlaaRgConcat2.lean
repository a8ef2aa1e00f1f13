/- Contracts of slices.Concat over ranges, and of 'ends'. -/
import Derived.Test.YtolmpmihchjmlaaRgConcat
namespace Go.Proofs.Ytolmpmihchjmlaa
open Go.RowKit

/-- One of the slices that are joined. -/
structure Sl where
  a : Option Addr
  cap : Nat
  l : List Rg
instance : Inhabited Sl := ⟨⟨none, 0, []⟩⟩
def SlIn (w : World) (s : Sl) : Prop := Rr w s.a s.l ∧ (s.a = none → s.cap = 0) ∧ s.l.length ≤ s.cap ∧ s.cap ≤ 9223372036854775807
theorem SlIn.keep {w w' : World} {s : Sl} (h : SlIn w s) (hf : Frm [] w w') : SlIn w' s := ⟨h.1.keep0 hf, h.2.1, h.2.2⟩
def all (ss : List Sl) : List Rg := ss.flatMap Sl.l
theorem all_take {ss : List Sl} {k : Nat} (h : k < ss.length) : all (ss.take (k + 1)) = all (ss.take k) ++ (ss.getD k default).l := by
  have e : ss.getD k default = ss[k] := by simp [h]
  unfold all
  rw [e, List.take_succ_eq_append_getElem h, List.flatMap_append, List.flatMap_singleton]
theorem all_take_le (ss : List Sl) (k : Nat) : (all (ss.take k)).length ≤ (all ss).length := by
  have h : all (ss.take k) ++ all (ss.drop k) = all ss := by unfold all; rw [← List.flatMap_append, List.take_append_drop]
  have := congrArg List.length h
  rw [List.length_append] at this
  omega
/-- Slices that lie side by side. -/
def SlsIn (w : World) (g : Nat) (ss : List Sl) : Prop := ∀ k, k < ss.length → w.cell? ⟨g, k, none⟩ = some (.slice (ss.getD k default).a (ss.getD k default).l.length (ss.getD k default).cap) ∧ SlIn w (ss.getD k default)
theorem SlsIn.keep {w w' : World} {g : Nat} {ss : List Sl} (h : SlsIn w g ss) (hf : Frm [] w w') : SlsIn w' g ss := fun k hk =>
  ⟨(hf.cell (p := ⟨g, k, none⟩) (block_lt_of_cell (h k hk).1) (by simp)).trans (h k hk).1, (h k hk).2.keep hf⟩

def CatRel (w0 : World) (base : Nat) (ss : List Sl) (n : Nat) (v i : Value) (wr : World) : Prop :=
  ∃ (k : Nat) (a : Option Addr) (cap : Nat), k ≤ n ∧ i = .int .i64 k ∧ v = .slice a (all (ss.take k)).length cap ∧ OwnR wr base a cap (all (ss.take k)) ∧ Frm [] w0 wr

set_option maxHeartbeats 2000000 in
theorem concatR_any {w : World} {g : Nat} {ss : List Sl} (h : SlsIn w g ss) {n : Nat} (hn : n = ss.length) (hn3 : n ≤ 10) (hsz : (all ss).length ≤ 100000) :
    Calls Try.prog 57 #[.slice (some ⟨g, 0, none⟩) n n] w (RetR w (all ss)) := by
  have H := Lib.hid h; clear h
  have HN := Lib.hid hn; clear hn
  have HS := Lib.hid hsz; clear hsz
  go_enter Try.func57, Try.ntmps57
  go_wp2
  go_loop [3, 11] (fun s i => ∃ k : Nat, k ≤ n ∧ i = .int .i64 k ∧ s = .int .i64 ((all (ss.take k)).length : Nat)) (fun _ i => n - (intOf i).toNat)
  case atStart => exact ⟨0, Nat.zero_le _, rfl, rfl⟩
  case round =>
    obtain ⟨k, hk, rfl, rfl⟩ := hrel
    by_cases hlt : k < n
    · obtain ⟨c0, s1, s2, s3, s4⟩ := H.out k (by have := HN.out; omega)
      have st := all_take (ss := ss) (k := k) (by have := HN.out; omega)
      have le1 := all_take_le ss (k + 1)
      have le2 := HS.out
      rw [st, List.length_append] at le1
      have st2 : (all (ss.take (k + 1))).length = (all (ss.take k)).length + (ss.getD k default).l.length := by rw [st, List.length_append]
      obtain ⟨m, hm⟩ : ∃ m, m = (all (ss.take k)).length := ⟨_, rfl⟩
      obtain ⟨s, hs⟩ : ∃ s, s = ss.getD k default := ⟨_, rfl⟩
      rw [← hs] at c0 s1 s2 s3 s4 le1 st2
      rw [← hm] at le1 st2 ⊢
      have ST := Lib.hid st2
      have hmb : m + s.l.length ≤ 100000 := by omega
      clear s1 s2 st st2 hm hs le1 le2
      obtain ⟨sa, sc, sl⟩ := s
      simp only at c0 s3 s4 ST hmb
      have hlt' : (k : Int) < (n : Int) := by omega
      have hneg : ¬ ((m : Int) + (sl.length : Int) < 0) := by omega
      go_wp2
      go_round
      case rel => exact ⟨k + 1, by omega, by go_num, int_eq (by rw [ST.out]; omega)⟩
      case measure => simp [intOf]; omega
    · obtain rfl : k = n := by omega
      have eall : all (ss.take k) = all ss := by rw [List.take_of_length_le (by have := HN.out; omega)]
      rw [eall]
      obtain ⟨m, hm⟩ : ∃ m, m = (all ss).length := ⟨_, rfl⟩
      rw [← hm]
      have hm1 : m ≤ 100000 := by have := HS.out; omega
      have HM := Lib.hid hm; clear hm eall
      go_wp2_with fail
      refine (growR_any m w hm1).mono ?_
      rintro e w1 ⟨a1, c1, rfl, ho, hf⟩
      have HO := Lib.hid ho; clear ho
      have HF := Lib.hid hf; clear hf
      clear hlt hk
      go_wp2
      go_loopw [6, 27] (fun v i wr => CatRel w w.heap.size ss k v i wr) (fun _ i _ => k - (intOf i).toNat)
      case atStart => exact ⟨0, a1, c1, Nat.zero_le _, rfl, rfl, HO.out, HF.out⟩
      case round =>
        obtain ⟨j, aj, cj, hj, rfl, rfl, hown, hf⟩ := hrel
        have HFJ := Lib.hid hf; clear hf
        have HOJ := Lib.hid hown; clear hown
        by_cases hlt : j < k
        · obtain ⟨c0, s1, s2, s3, s4⟩ := (H.out.keep HFJ.out) j (by have := HN.out; omega)
          have st := all_take (ss := ss) (k := j) (by have := HN.out; omega)
          have le1 := all_take_le ss (j + 1)
          have le2 := HS.out
          rw [st, List.length_append] at le1
          obtain ⟨s, hs⟩ : ∃ s, s = ss.getD j default := ⟨_, rfl⟩
          rw [← hs] at c0 s1 s2 s3 s4 le1 st
          obtain ⟨lj, hlj⟩ : ∃ lj, lj = all (ss.take j) := ⟨_, rfl⟩
          rw [← hlj] at le1 st HOJ ⊢
          obtain ⟨sa, sc, sl⟩ := s
          simp only at c0 s1 s2 s3 s4 le1 st
          have ST := Lib.hid st
          have S1 := Lib.hid s1
          have S2 := Lib.hid s2
          clear st hlj hs s1 s2
          have hlt' : (j : Int) < (k : Int) := by omega
          obtain ⟨i0, hi, hz0, hz1, hz2⟩ := info_parts Try.info51
          have HI := Lib.hid hi; clear hi
          have HZ0 := Lib.hid hz0; clear hz0
          have HZ1 := Lib.hid hz1; clear hz1
          have HZ2 := Lib.hid hz2; clear hz2
          have hbz : w.heap.size ≤ wr.heap.size := HFJ.out.size
          obtain ⟨nj, hnj⟩ : ∃ nj, nj = lj.length := ⟨_, rfl⟩
          obtain ⟨ns, hns⟩ : ∃ ns, ns = sl.length := ⟨_, rfl⟩
          rw [← hns] at c0 s3 le1
          rw [← hnj] at le1 ⊢
          have HNJ := Lib.hid hnj; clear hnj
          have HNS := Lib.hid hns; clear hns
          go_wp2_with (at_builtin; refine wpList_appR rfl (.tmp 31) (.tmp 32) 44 rfl w.heap.size 51 i0 Try.underlying44 HI.out HZ0.out HZ1.out HZ2.out _ nj (fl lj) rfl ?own1 _ _ _ sl rfl S1.out HNS.out S2.out ?fit1 hbz ?_)
          case own1 => rw [HNJ.out]; exact HOJ.out
          case fit1 => omega
          intro a2 c2 w2 happ
          have HF2 := Lib.hid (frm_app HFJ.out happ (fun x hx => .inr (HOJ.out.lt x hx).1))
          have ho2 : OwnR w2 w.heap.size a2 c2 (lj ++ sl) := by
            have h1 := happ.own
            rw [HNJ.out, HNS.out, ← fl_append] at h1
            unfold OwnR
            rw [List.length_append]; exact h1
          have HO2 := Lib.hid ho2
          clear happ ho2 hbz
          go_wp2
          go_roundw
          case rel => exact ⟨j + 1, a2, c2, by omega, by go_num, by rw [ST.out, List.length_append, ← HNJ.out, ← HNS.out], by rw [ST.out]; exact HO2.out, HF2.out⟩
          case measure => simp [intOf]; omega
        · obtain rfl : j = k := by omega
          have eall : all (ss.take j) = all ss := by rw [List.take_of_length_le (by have := HN.out; omega)]
          rw [eall] at HOJ ⊢
          have FIN : Hid (RetR w (all ss) (.returned (.slice aj (all ss).length cj)) wr) := ⟨aj, cj, rfl, HOJ.out, HFJ.out⟩
          clear eall
          go_wp2
          go_ret
          exact FIN.out
end Go.Proofs.Ytolmpmihchjmlaa
