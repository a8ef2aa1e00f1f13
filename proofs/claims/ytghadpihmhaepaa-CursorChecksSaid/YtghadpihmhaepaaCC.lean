/- Contracts and mathematics that the proofs of this seat stand on: RgPut2, RgREnds, RgSet, CuTightM, CqWith, CqLeft, CqMath, PkClone, PkMath, PkDigits, PkPut, PkDone, BytesCut, PkTake, PkValue, PkRNum, PkRWords, PkReadD, PkRead. -/
import Derived.Test.YtghadpihmhaepaaCB
import Derived.Deep.RegionHeld
import Derived.Test.YtghadpihmhaepaaCA
import Derived.WalkSpells
import Derived.Outline
import Derived.Test.YtghadpihmhaepaaRows
import Derived.Handy
import Derived.Deep.RegionHeld3
import Derived.Deep.QuietTactic
import Derived.BigQuiet
import Derived.BigRegion
import Derived.StillTailTactics
import Derived.WalkLawsBesides
import Derived.Laws.CopyOwn
import Derived.Recover
import Derived.LaidEqlPtr
import Derived.Laws.EntriesVeiled
/- Contract of the document's put: the walk. -/
namespace Go.Proofs.Ytghadpihmhaepaa
open Go.RowKit

theorem one_u {W : World} {n : Nat} (hn : n < 18446744073709551616) : Uw (W.alloc (.cells #[.int .u64 (n : Nat)] 23)) (some ⟨W.heap.size, 0, none⟩) [n] := by
  have hw := Whole.made W 23 #[.int .u64 (n : Nat)]
  refine ⟨by simp; exact hn, fun _ => ⟨W.heap.size, 0, rfl, fun i hi => ?_⟩⟩
  simp at hi
  subst hi
  exact hw.cell 0

theorem own_drew {w : World} {base : Nat} {e : TypeId} {size n : Nat} {v : Value} {xs : List Value} (h : w.ownsRow base e size v n xs) : w.drew.ownsRow base e size v n xs := h
theorem uw_whole {w : World} {g n : Nat} (h : Whole w g 23 #[.int .u64 (n : Nat)]) (hn : n < 18446744073709551616) : Uw w (some ⟨g, 0, none⟩) [n] := by
  refine ⟨by simp; exact hn, fun _ => ⟨g, 0, rfl, fun i hi => ?_⟩⟩
  simp at hi
  subst hi
  exact h.cell 0
theorem grown_whole {w w' : World} {g : Nat} {t : TypeId} {cs : Array Value} {row : Option Nat} (h : w.grownBy w' row) (hw : Whole w g t cs) (hne : row ≠ some g) : Whole w' g t cs := by
  unfold Whole
  rw [h.block g hw.lt (fun e => hne e.symm)]
  exact hw
theorem own_lit2 {w : World} (o : Obj) : ((w.alloc o).alloc (.cells #[] 23)).ownsRow w.heap.size 23 1 (.slice (some ⟨w.heap.size + 1, 0, none⟩) 0 0) 0 [] := by
  have h := World.ownsRow_lit (base := w.heap.size) (e := 23) (size := 1) (w.alloc o) #[] 0 (by simp) (by unfold maxLen; omega) rfl
  have e : (w.alloc o).heap.size = w.heap.size + 1 := by simp
  rw [e] at h
  exact h

def AtRel (l : List Nat) (n m : Nat) (i : Value) : Prop := ∃ k : Nat, k ≤ m ∧ i = .int .i64 k ∧ Hid (∀ t, t < k → l.getD t 0 < n)

set_option maxRecDepth 100000 in
set_option maxHeartbeats 4000000 in
theorem putU_any {w : World} {a : Option Addr} {cap m : Nat} {l : List Nat} (h : UIn w a cap l) (hu : Up l) (hm : m = l.length) (hsz : m ≤ 10000) {n : Nat} (hn : n < 18446744073709551616) :
    Calls Try.prog 90 #[.slice a m cap, .int .u64 n] w (GotU w (fun x => x ∈ l ∨ x = n) (m + 1)) := by
  have hmc : m ≤ cap := by rw [hm]; exact h.2.2.1
  have hcm := h.2.2.2
  have H := Lib.hid h; clear h
  have HU := Lib.hid hu; clear hu
  have HM := Lib.hid hm; clear hm
  go_enter Try.func90, Try.ntmps90
  go_wp2
  go_loop [5] (fun i => AtRel l n m i) (fun i => m - (intOf i).toNat)
  case atStart => exact ⟨0, Nat.zero_le _, rfl, fun t ht => absurd ht (Nat.not_lt_zero _)⟩
  case round =>
    obtain ⟨k, hk, rfl, HI⟩ := hrel
    by_cases hlt : k < m
    · obtain ⟨b, off, rfl, hc⟩ := H.out.1.2 (by have := HM.out; omega)
      have d0 := hc k (by have := HM.out; omega)
      clear hc
      have hyb := u_bd H.out.1.1 k
      obtain ⟨y, hy⟩ : ∃ y, y = l.getD k 0 := ⟨_, rfl⟩
      rw [← hy] at d0 hyb
      have HY := Lib.hid hy; clear hy
      have hlt' : (k : Int) < (m : Int) := by omega
      by_cases hyn : y < n
      · have HI2 : Hid (∀ t, t < k + 1 → l.getD t 0 < n) := by
          intro t ht
          rcases Nat.lt_or_eq_of_le (Nat.le_of_lt_succ ht) with h1 | rfl
          · exact HI.out t h1
          · rw [← HY.out]; exact hyn
        have hyn' : (y : Int) < (n : Int) := by omega
        clear hyn
        go_wp2
        go_round
        case rel => exact ⟨k + 1, by omega, by go_num, HI2⟩
        case measure => simp [intOf]; omega
      · by_cases hye : y = n
        · subst hye
          have FIN : Hid (GotU w (fun x => x ∈ l ∨ x = y) (m + 1) (.returned (.slice (some ⟨b, off, none⟩) m cap)) w) :=
            ⟨_, m, cap, l, rfl, HM.out, H.out, ⟨HU.out, fun x => ⟨.inl, fun h => h.elim id (fun h => by rw [h, HY.out]; exact mem_getD (by have := HM.out; omega))⟩⟩, by have := HM.out; omega, (Frm.refl _ _ : Frm [] w w)⟩
          have hlt2 : ¬ (y : Int) < (y : Int) := by omega
          have heq : ((y : Int) == (y : Int)) = true := by simp
          go_wp2
          go_ret
          exact FIN.out
        · have hlt2 : ¬ (y : Int) < (n : Int) := by omega
          have heq : ((y : Int) == (n : Int)) = false := by simp; omega
          have PUT := Lib.hid (up_put HU.out (n := n) (k := k) (by have := HM.out; omega) HI.out (fun _ => by rw [← HY.out]; omega))
          have cA := fun w => run_cutU_h w (some ⟨b, off, none⟩) m cap k (k : Int) rfl (by omega)
          have cB := fun w => run_cutU_l w (some ⟨b, off, none⟩) m cap k (k : Int) rfl (by omega)
          obtain ⟨aA, haA⟩ : ∃ aA, aA = cutU (some ⟨b, off, none⟩) cap 0 := ⟨_, rfl⟩
          obtain ⟨aB, haB⟩ : ∃ aB, aB = cutU (some ⟨b, off, none⟩) cap k := ⟨_, rfl⟩
          obtain ⟨nB, hnB⟩ : ∃ nB, nB = m - k := ⟨_, rfl⟩
          obtain ⟨cB', hcB'⟩ : ∃ cB', cB' = cap - k := ⟨_, rfl⟩
          rw [← haA] at cA
          rw [← haB, ← hnB, ← hcB'] at cB
          have HAA := Lib.hid haA; clear haA
          have HAB := Lib.hid haB; clear haB
          have HNB := Lib.hid hnB; clear hnB
          have HCB := Lib.hid hcB'; clear hcB'
          clear hye hyn
          go_wp2
          have F0 : Frm [] w w := Frm.refl _ _
          obtain ⟨i0, hi0, hz0, hz1, hz2⟩ := info_parts Try.info23
          have HI0 := Lib.hid hi0; clear hi0
          have HZ0 := Lib.hid hz0; clear hz0
          have HZ1 := Lib.hid hz1; clear hz1
          have HZ2 := Lib.hid hz2; clear hz2
          have O1 : Hid ((w.alloc (.cells #[] 23)).drew.ownsRow w.heap.size 23 1 (.slice (some ⟨w.heap.size, 0, none⟩) 0 0) 0 []) := own_drew (World.ownsRow_lit w #[] 0 (Nat.le_refl _) (by unfold maxLen; omega) rfl)
          have O2 : Hid (((w.alloc (.cells #[] 23)).alloc (.cells #[.int .u64 (n : Nat)] 23)).drew.ownsRow w.heap.size 23 1 (.slice (some ⟨w.heap.size, 0, none⟩) 0 0) 0 []) := own_drew ((World.ownsRow_lit w #[] 0 (Nat.le_refl _) (by unfold maxLen; omega) rfl).alloc _)
          have O3 : Hid (((w.alloc (.cells #[.int .u64 (n : Nat)] 23)).alloc (.cells #[] 23)).drew.ownsRow w.heap.size 23 1 (.slice (some ⟨w.heap.size + 1, 0, none⟩) 0 0) 0 []) := own_drew (own_lit2 _)
          have N2 : Hid (Whole ((w.alloc (.cells #[] 23)).alloc (.cells #[.int .u64 (n : Nat)] 23)).drew (w.heap.size + 1) 23 #[.int .u64 (n : Nat)]) := (Whole.made2 (w := w) (.cells #[] 23) 23 #[.int .u64 (n : Nat)] rfl).drew
          have N3 : Hid (Whole ((w.alloc (.cells #[.int .u64 (n : Nat)] 23)).alloc (.cells #[] 23)).drew w.heap.size 23 #[.int .u64 (n : Nat)]) := ((Whole.made w _ _).alloc _).drew
          have SA : Hid (∀ W, Frm [] w W → Uw W aA (l.take k)) := fun W hf => by
            have := ((H.out.1.keep hf).cut (cap := cap) (by have := HM.out; omega) 0).take k
            rw [List.drop_zero] at this
            rw [HAA.out]; exact this
          have SB : Hid (∀ W, Frm [] w W → Uw W aB (l.drop k)) := fun W hf => by
            rw [HAB.out]; exact (H.out.1.keep hf).cut (cap := cap) (by have := HM.out; omega) k
          have LA : Hid (k = (l.take k).length) := by show k = _; rw [List.length_take]; have := HM.out; omega
          have LB : Hid (nB = (l.drop k).length) := by show nB = _; rw [List.length_drop, HNB.out]; have := HM.out; omega
          have ZA : Hid (aA = none → cap = 0) := fun h => by rw [HAA.out] at h; have := cutU_none H.out.2.1 h; omega
          have ZB : Hid (aB = none → cB' = 0) := fun h => by rw [HAB.out] at h; have := cutU_none H.out.2.1 h; rw [HCB.out]; omega
          have ONE : Hid (∀ W : World, Uw (W.alloc (.cells #[.int .u64 (n : Nat)] 23)).drew (some ⟨W.heap.size, 0, none⟩) [n]) := fun W => one_u hn
          have hnB' : nB ≤ 10000 := by have := HNB.out; omega
          go_region_held3 (fun w' => Frm [] w w') (repeat (first | assumption | apply Frm.drew | apply Frm.alloc)) ((first
            | (refine step_appU rfl (.tmp 33) (.tmp 36) 103 rfl w.heap.size 23 i0 Try.underlying103 HI0.out HZ0.out HZ1.out HZ2.out _ 0 [] rfl O1.out _ _ _ (l.take k) rfl (SA.out _ (by assumption)) LA.out ZA.out (by omega) (by refine Frm.size (S := []) (w := w) ?_; assumption) ?_; intro a1 c1 w1 happ1; have hf1 : Frm [] w w1 := frm_appU (by assumption) happ1 (fun x hx => .inr (by cases hx; simp)); have ho1 : w1.ownsRow w.heap.size 23 1 (.slice a1 k c1) k ((l.take k).map uv) := (by have h := happ1.own; rw [Nat.zero_add, List.nil_append] at h; exact h))
            | (refine step_appU rfl (.tmp 33) (.tmp 36) 103 rfl w.heap.size 23 i0 Try.underlying103 HI0.out HZ0.out HZ1.out HZ2.out _ 0 [] rfl O2.out _ _ _ (l.take k) rfl (SA.out _ (by assumption)) LA.out ZA.out (by omega) (by refine Frm.size (S := []) (w := w) ?_; assumption) ?_; intro a1 c1 w1 happ1; have hf1 : Frm [] w w1 := frm_appU (by assumption) happ1 (fun x hx => .inr (by cases hx; simp)); have hn1 : Uw w1 (some ⟨w.heap.size + 1, 0, none⟩) [n] := uw_whole (grown_whole happ1.grown N2.out (show (some w.heap.size : Option Nat) ≠ some (w.heap.size + 1) by simp)) hn)
            | (refine step_appU rfl (.tmp 33) (.tmp 36) 103 rfl w.heap.size 23 i0 Try.underlying103 HI0.out HZ0.out HZ1.out HZ2.out _ 0 [] rfl O3.out _ _ _ (l.take k) rfl (SA.out _ (by assumption)) LA.out ZA.out (by omega) (by refine Frm.size (S := []) (w := w) ?_; assumption) ?_; intro a1 c1 w1 happ1; have hf1 : Frm [] w w1 := frm_appU (by assumption) happ1 (fun x hx => .inr (by cases hx; simp)); have hn1 : Uw w1 (some ⟨w.heap.size, 0, none⟩) [n] := uw_whole (grown_whole happ1.grown N3.out (show (some (w.heap.size + 1) : Option Nat) ≠ some w.heap.size by simp)) hn)
            | (refine step_appU rfl (.tmp 37) (.tmp 39) 103 rfl w.heap.size 23 i0 Try.underlying103 HI0.out HZ0.out HZ1.out HZ2.out _ _ _ rfl happ1.own _ _ _ [n] rfl hn1 rfl (by intro h; cases h) (by omega) (by refine Frm.size (S := []) (w := w) ?_; assumption) ?_; intro a2 c2 w2 happ2; have hf2 : Frm [] w w2 := frm_appU hf1 happ2 (fun x hx => .inr (World.ownsRow.lt happ1.own x.block (by rw [hx]; rfl)).1))
            | (refine step_appU rfl (.tmp 37) (.tmp 39) 103 rfl w.heap.size 23 i0 Try.underlying103 HI0.out HZ0.out HZ1.out HZ2.out _ _ _ rfl (own_drew (World.ownsRow.alloc ho1 _)) _ _ _ [n] rfl (ONE.out _) rfl (by intro h; cases h) (by omega) (by refine Frm.size (S := []) (w := w) ?_; assumption) ?_; intro a2 c2 w2 happ2; have hf2 : Frm [] w w2 := frm_appU (by assumption) happ2 (fun x hx => .inr (World.ownsRow.lt happ1.own x.block (by rw [hx]; rfl)).1))
            | (refine step_appU rfl (.tmp 40) (.tmp 43) 103 rfl w.heap.size 23 i0 Try.underlying103 HI0.out HZ0.out HZ1.out HZ2.out _ _ _ rfl happ2.own _ _ _ (l.drop k) rfl (SB.out _ (by assumption)) LB.out ZB.out (by omega) (by refine Frm.size (S := []) (w := w) ?_; assumption) ?_; intro a3 c3 w3 happ3; have hf3 : Frm [] w w3 := frm_appU hf2 happ3 (fun x hx => .inr (World.ownsRow.lt happ2.own x.block (by rw [hx]; rfl)).1))))
          all_goals
            have ho3 : OwnU w3 w.heap.size a3 c3 (l.take k ++ ([n] ++ l.drop k)) := by
              have h := happ3.own
              have e1 : (l.take k ++ ([n] ++ l.drop k)).length = k + 1 + nB := by
                rw [List.length_append, List.length_append, ← LA.out, ← LB.out]; simp; omega
              unfold OwnU
              rw [e1]
              simpa only [Nat.zero_add, List.nil_append, List.map_append, List.map_cons, List.map_nil, List.append_assoc] using h
            have FIN : Hid (GotU w (fun x => x ∈ l ∨ x = n) (m + 1) (.returned (.slice a3 (k + 1 + nB) c3)) w3) := by
              have hb : ∀ c ∈ l.take k ++ ([n] ++ l.drop k), c < 18446744073709551616 := fun c hc => by
                rcases (PUT.out.2 c).1 hc with h | h
                · exact H.out.1.1 c h
                · omega
              have e1 : k + 1 + nB = (l.take k ++ ([n] ++ l.drop k)).length := by
                rw [List.length_append, List.length_append, ← LA.out, ← LB.out]; simp; omega
              exact ⟨a3, _, c3, _, rfl, e1, ho3.uw hb, PUT.out, by rw [← e1]; have := HNB.out; omega, hf3⟩
            clear ho3 hf3 hf2 hf1 happ1 happ2 happ3 O1 O2 O3 N2 N3
            go_wp2
            go_ret
            exact FIN.out
    · obtain rfl : k = m := by omega
      have hlt2 : ¬ (k : Int) < (k : Int) := by omega
      have PUT := Lib.hid (up_put HU.out (n := n) (k := k) (by have := HM.out; omega) HI.out (fun h => by have := HM.out; omega))
      have cA := fun w => run_cutU_h w a k cap k (k : Int) rfl (by omega)
      have cB := fun w => run_cutU_l w a k cap k (k : Int) rfl (by omega)
      obtain ⟨aA, haA⟩ : ∃ aA, aA = cutU a cap 0 := ⟨_, rfl⟩
      obtain ⟨aB, haB⟩ : ∃ aB, aB = cutU a cap k := ⟨_, rfl⟩
      obtain ⟨nB, hnB⟩ : ∃ nB, nB = k - k := ⟨_, rfl⟩
      obtain ⟨cB', hcB'⟩ : ∃ cB', cB' = cap - k := ⟨_, rfl⟩
      rw [← haA] at cA
      rw [← haB, ← hnB, ← hcB'] at cB
      have HAA := Lib.hid haA; clear haA
      have HAB := Lib.hid haB; clear haB
      have HNB := Lib.hid hnB; clear hnB
      have HCB := Lib.hid hcB'; clear hcB'
      clear hlt hlt2
      go_wp2
      have F0 : Frm [] w w := Frm.refl _ _
      obtain ⟨i0, hi0, hz0, hz1, hz2⟩ := info_parts Try.info23
      have HI0 := Lib.hid hi0; clear hi0
      have HZ0 := Lib.hid hz0; clear hz0
      have HZ1 := Lib.hid hz1; clear hz1
      have HZ2 := Lib.hid hz2; clear hz2
      have O1 : Hid ((w.alloc (.cells #[] 23)).drew.ownsRow w.heap.size 23 1 (.slice (some ⟨w.heap.size, 0, none⟩) 0 0) 0 []) := own_drew (World.ownsRow_lit w #[] 0 (Nat.le_refl _) (by unfold maxLen; omega) rfl)
      have O2 : Hid (((w.alloc (.cells #[] 23)).alloc (.cells #[.int .u64 (n : Nat)] 23)).drew.ownsRow w.heap.size 23 1 (.slice (some ⟨w.heap.size, 0, none⟩) 0 0) 0 []) := own_drew ((World.ownsRow_lit w #[] 0 (Nat.le_refl _) (by unfold maxLen; omega) rfl).alloc _)
      have O3 : Hid (((w.alloc (.cells #[.int .u64 (n : Nat)] 23)).alloc (.cells #[] 23)).drew.ownsRow w.heap.size 23 1 (.slice (some ⟨w.heap.size + 1, 0, none⟩) 0 0) 0 []) := own_drew (own_lit2 _)
      have N2 : Hid (Whole ((w.alloc (.cells #[] 23)).alloc (.cells #[.int .u64 (n : Nat)] 23)).drew (w.heap.size + 1) 23 #[.int .u64 (n : Nat)]) := (Whole.made2 (w := w) (.cells #[] 23) 23 #[.int .u64 (n : Nat)] rfl).drew
      have N3 : Hid (Whole ((w.alloc (.cells #[.int .u64 (n : Nat)] 23)).alloc (.cells #[] 23)).drew w.heap.size 23 #[.int .u64 (n : Nat)]) := ((Whole.made w _ _).alloc _).drew
      have SA : Hid (∀ W, Frm [] w W → Uw W aA (l.take k)) := fun W hf => by
        have := ((H.out.1.keep hf).cut (cap := cap) (by have := HM.out; omega) 0).take k
        rw [List.drop_zero] at this
        rw [HAA.out]; exact this
      have SB : Hid (∀ W, Frm [] w W → Uw W aB (l.drop k)) := fun W hf => by
        rw [HAB.out]; exact (H.out.1.keep hf).cut (cap := cap) (by have := HM.out; omega) k
      have LA : Hid (k = (l.take k).length) := by show k = _; rw [List.length_take]; have := HM.out; omega
      have LB : Hid (nB = (l.drop k).length) := by show nB = _; rw [List.length_drop, HNB.out]; have := HM.out; omega
      have ZA : Hid (aA = none → cap = 0) := fun h => by rw [HAA.out] at h; have := cutU_none H.out.2.1 h; omega
      have ZB : Hid (aB = none → cB' = 0) := fun h => by rw [HAB.out] at h; have := cutU_none H.out.2.1 h; rw [HCB.out]; omega
      have ONE : Hid (∀ W : World, Uw (W.alloc (.cells #[.int .u64 (n : Nat)] 23)).drew (some ⟨W.heap.size, 0, none⟩) [n]) := fun W => one_u hn
      have hnB' : nB ≤ 10000 := by have := HNB.out; omega
      go_region_held3 (fun w' => Frm [] w w') (repeat (first | assumption | apply Frm.drew | apply Frm.alloc)) ((first
        | (refine step_appU rfl (.tmp 33) (.tmp 36) 103 rfl w.heap.size 23 i0 Try.underlying103 HI0.out HZ0.out HZ1.out HZ2.out _ 0 [] rfl O1.out _ _ _ (l.take k) rfl (SA.out _ (by assumption)) LA.out ZA.out (by omega) (by refine Frm.size (S := []) (w := w) ?_; assumption) ?_; intro a1 c1 w1 happ1; have hf1 : Frm [] w w1 := frm_appU (by assumption) happ1 (fun x hx => .inr (by cases hx; simp)); have ho1 : w1.ownsRow w.heap.size 23 1 (.slice a1 k c1) k ((l.take k).map uv) := (by have h := happ1.own; rw [Nat.zero_add, List.nil_append] at h; exact h))
        | (refine step_appU rfl (.tmp 33) (.tmp 36) 103 rfl w.heap.size 23 i0 Try.underlying103 HI0.out HZ0.out HZ1.out HZ2.out _ 0 [] rfl O2.out _ _ _ (l.take k) rfl (SA.out _ (by assumption)) LA.out ZA.out (by omega) (by refine Frm.size (S := []) (w := w) ?_; assumption) ?_; intro a1 c1 w1 happ1; have hf1 : Frm [] w w1 := frm_appU (by assumption) happ1 (fun x hx => .inr (by cases hx; simp)); have hn1 : Uw w1 (some ⟨w.heap.size + 1, 0, none⟩) [n] := uw_whole (grown_whole happ1.grown N2.out (show (some w.heap.size : Option Nat) ≠ some (w.heap.size + 1) by simp)) hn)
        | (refine step_appU rfl (.tmp 33) (.tmp 36) 103 rfl w.heap.size 23 i0 Try.underlying103 HI0.out HZ0.out HZ1.out HZ2.out _ 0 [] rfl O3.out _ _ _ (l.take k) rfl (SA.out _ (by assumption)) LA.out ZA.out (by omega) (by refine Frm.size (S := []) (w := w) ?_; assumption) ?_; intro a1 c1 w1 happ1; have hf1 : Frm [] w w1 := frm_appU (by assumption) happ1 (fun x hx => .inr (by cases hx; simp)); have hn1 : Uw w1 (some ⟨w.heap.size, 0, none⟩) [n] := uw_whole (grown_whole happ1.grown N3.out (show (some (w.heap.size + 1) : Option Nat) ≠ some w.heap.size by simp)) hn)
        | (refine step_appU rfl (.tmp 37) (.tmp 39) 103 rfl w.heap.size 23 i0 Try.underlying103 HI0.out HZ0.out HZ1.out HZ2.out _ _ _ rfl happ1.own _ _ _ [n] rfl hn1 rfl (by intro h; cases h) (by omega) (by refine Frm.size (S := []) (w := w) ?_; assumption) ?_; intro a2 c2 w2 happ2; have hf2 : Frm [] w w2 := frm_appU hf1 happ2 (fun x hx => .inr (World.ownsRow.lt happ1.own x.block (by rw [hx]; rfl)).1))
        | (refine step_appU rfl (.tmp 37) (.tmp 39) 103 rfl w.heap.size 23 i0 Try.underlying103 HI0.out HZ0.out HZ1.out HZ2.out _ _ _ rfl (own_drew (World.ownsRow.alloc ho1 _)) _ _ _ [n] rfl (ONE.out _) rfl (by intro h; cases h) (by omega) (by refine Frm.size (S := []) (w := w) ?_; assumption) ?_; intro a2 c2 w2 happ2; have hf2 : Frm [] w w2 := frm_appU (by assumption) happ2 (fun x hx => .inr (World.ownsRow.lt happ1.own x.block (by rw [hx]; rfl)).1))
        | (refine step_appU rfl (.tmp 40) (.tmp 43) 103 rfl w.heap.size 23 i0 Try.underlying103 HI0.out HZ0.out HZ1.out HZ2.out _ _ _ rfl happ2.own _ _ _ (l.drop k) rfl (SB.out _ (by assumption)) LB.out ZB.out (by omega) (by refine Frm.size (S := []) (w := w) ?_; assumption) ?_; intro a3 c3 w3 happ3; have hf3 : Frm [] w w3 := frm_appU hf2 happ3 (fun x hx => .inr (World.ownsRow.lt happ2.own x.block (by rw [hx]; rfl)).1))))
      all_goals
        have ho3 : OwnU w3 w.heap.size a3 c3 (l.take k ++ ([n] ++ l.drop k)) := by
          have h := happ3.own
          have e1 : (l.take k ++ ([n] ++ l.drop k)).length = k + 1 + nB := by
            rw [List.length_append, List.length_append, ← LA.out, ← LB.out]; simp; omega
          unfold OwnU
          rw [e1]
          simpa only [Nat.zero_add, List.nil_append, List.map_append, List.map_cons, List.map_nil, List.append_assoc] using h
        have FIN : Hid (GotU w (fun x => x ∈ l ∨ x = n) (k + 1) (.returned (.slice a3 (k + 1 + nB) c3)) w3) := by
          have hb : ∀ c ∈ l.take k ++ ([n] ++ l.drop k), c < 18446744073709551616 := fun c hc => by
            rcases (PUT.out.2 c).1 hc with h | h
            · exact H.out.1.1 c h
            · omega
          have e1 : k + 1 + nB = (l.take k ++ ([n] ++ l.drop k)).length := by
            rw [List.length_append, List.length_append, ← LA.out, ← LB.out]; simp; omega
          exact ⟨a3, _, c3, _, rfl, e1, ho3.uw hb, PUT.out, by rw [← e1]; have := HNB.out; omega, hf3⟩
        clear ho3 hf3 hf2 hf1 happ1 happ2 happ3 O1 O2 O3 N2 N3
        go_wp2
        go_ret
        exact FIN.out
end Go.Proofs.Ytghadpihmhaepaa
/- Contract of the document's ends. -/
namespace Go.Proofs.Ytghadpihmhaepaa
open Go.RowKit

def EndsTo (l : List Rg) (k x : Nat) : Prop := ∃ t, t < k ∧ (x = (l.getD t (0, 0)).1 ∨ x = (l.getD t (0, 0)).2)
def ERel (w : World) (l : List Rg) (n : Nat) (v i : Value) (wr : World) : Prop :=
  ∃ (k m cap : Nat) (a : Option Addr) (c : List Nat), k ≤ n ∧ i = .int .i64 k ∧ v = .slice a m cap ∧ Hid (m = c.length) ∧ Hid (UIn wr a cap c) ∧ Hid (Up c ∧ ∀ x, x ∈ c ↔ EndsTo l k x) ∧ m ≤ 2 * k ∧ Hid (Frm [] w wr)

set_option maxRecDepth 100000 in
set_option maxHeartbeats 4000000 in
theorem rends_any {w : World} {a : Option Addr} {l : List Rg} (h : Rr w a l) {n cap : Nat} (hn : n = l.length) (hsz : n ≤ 2000) :
    Calls Try.prog 66 #[.slice a n cap] w (GotU w (fun x => ∃ p ∈ l, x = p.1 ∨ x = p.2) (2 * n)) := by
  have HN := Lib.hid hn; clear hn
  have H := Lib.hid h; clear h
  go_enter Try.func66, Try.ntmps66
  go_wp2
  go_loopw [3, 4] (fun v i wr => ERel w l n v i wr) (fun _ i _ => n - (intOf i).toNat)
  case atStart => exact ⟨0, 0, 0, none, [], Nat.zero_le _, rfl, rfl, rfl, ⟨Uw.nil _ _, fun _ => rfl, by simp, by simp⟩, ⟨List.Pairwise.nil, fun x => ⟨fun h => by simp at h, fun ⟨t, ht, _⟩ => absurd ht (Nat.not_lt_zero _)⟩⟩, Nat.zero_le _, (Frm.refl _ _ : Frm [] w w)⟩
  case round =>
    obtain ⟨k, m, cp, ak, c, hk, rfl, rfl, HM, HU, HC, hm2, HF⟩ := hrel
    by_cases hlt : k < n
    · obtain ⟨b, off, rfl, hc⟩ := (H.out.keep0 HF.out).2 (by have := HN.out; omega)
      obtain ⟨d0, d1⟩ := hc k (by have := HN.out; omega)
      have bd := getD_bd H.out.1 k
      obtain ⟨x0, hx0⟩ : ∃ y, y = (l.getD k (0, 0)).1 := ⟨_, rfl⟩
      obtain ⟨y0, hy0⟩ : ∃ y, y = (l.getD k (0, 0)).2 := ⟨_, rfl⟩
      rw [← hx0] at d0 bd
      rw [← hy0] at d1 bd
      have HX := Lib.hid hx0; clear hx0
      have HY := Lib.hid hy0; clear hy0
      have l0 := block_lt_of_cell d0
      have l1 := block_lt_of_cell d1
      have hlt' : (k : Int) < (n : Int) := by omega
      clear hc
      have P1 := Lib.hid (fun (W : World) (hf : Frm [] wr W) => putU_any (HU.out.keep hf) HC.out.1 HM.out (by omega) bd.1)
      have P2 := Lib.hid (fun (W : World) (a1 : Option Addr) (c1 m1 : Nat) (l1 : List Nat) (hu : UIn W a1 c1 l1) (hup : Up l1) (hm : m1 = l1.length) (hs : l1.length ≤ m + 1) => putU_any hu hup hm (by omega) bd.2)
      clear bd
      go_wp2
      go_region_held3 (fun w' => w'.cell? ⟨b, off + k * 2, none⟩ = some (.int .u64 (x0 : Nat)) ∧ w'.cell? ⟨b, off + k * 2 + 1, none⟩ = some (.int .u64 (y0 : Nat))) (first | go_keep | (refine ⟨?_, ?_⟩ <;> first | (rw [hf2.out.cell (by simpa using Nat.lt_of_lt_of_le ‹_› hf1.out.size) (by simp), hf1.out.cell (by simpa using ‹_›) (by simp)]; assumption) | (rw [hf1.out.cell (by simpa using ‹_›) (by simp)]; assumption))) ((first
        | (go_at_call 90; ((with_reducible refine (P1.out _ (Frm.drew1 wr)).mono ?_)); rintro e w1 ⟨a1, m1, c1, l1, rfl, hm1, hu1, hs1, hle1, hf1⟩)
        | (go_at_call 90; ((with_reducible refine (P2.out _ a1 c1 m1 l1 hu1.out hs1.out.1 hm1.out hle1).mono ?_)); rintro e w2 ⟨a2, m2, c2, l2, rfl, hm2', hu2, hs2, hle2, hf2⟩)))
      have REL : Hid (ERel w l n (.slice a2 m2 c2) (.int .i64 ((k + 1 : Nat) : Int)) w2) := by
        refine ⟨k + 1, m2, c2, a2, l2, by omega, rfl, rfl, hm2', hu2, ⟨hs2.out.1, fun x => ?_⟩, ?_, HF.out.trans (((Frm.drew1 wr).trans hf1.out (U := []) (by simp) (by simp)).trans hf2.out (U := []) (by simp) (by simp)) (by simp) (by simp)⟩
        · rw [hs2.out.2 x, hs1.out.2 x, HC.out.2 x]
          constructor
          · rintro ((⟨t, ht, h⟩ | h) | h)
            · exact ⟨t, by omega, h⟩
            · exact ⟨k, by omega, .inl (by rw [h, HX.out])⟩
            · exact ⟨k, by omega, .inr (by rw [h, HY.out])⟩
          · rintro ⟨t, ht, h⟩
            rcases Nat.lt_or_eq_of_le (Nat.le_of_lt_succ ht) with h1 | rfl
            · exact .inl (.inl ⟨t, h1, h⟩)
            · rcases h with h | h
              · exact .inl (.inr (by rw [h, HX.out]))
              · exact .inr (by rw [h, HY.out])
        · have := hm2'.out; have := hm1.out; omega
      clear hm1 hu1 hs1 hle1 hf1 hm2' hu2 hs2 hle2 hf2 P1 P2 d0 d1
      go_wp2
      go_roundw
      case rel => exact REL.out
      case measure => simp [intOf]; omega
    · obtain rfl : k = n := by omega
      have FIN : Hid (GotU w (fun x => ∃ p ∈ l, x = p.1 ∨ x = p.2) (2 * k) (.returned (.slice ak m cp)) wr) := by
        refine ⟨ak, m, cp, c, rfl, HM, HU, ⟨HC.out.1, fun x => ?_⟩, by have := HM.out; omega, HF⟩
        rw [HC.out.2 x]
        constructor
        · rintro ⟨t, ht, h⟩
          have e : l.getD t (0, 0) = l[t]'(by have := HN.out; omega) := by have := HN.out; simp [show t < l.length by omega]
          rw [e] at h
          exact ⟨_, List.getElem_mem _, h⟩
        · rintro ⟨p, hp, h⟩
          obtain ⟨t, ht, rfl⟩ := List.getElem_of_mem hp
          exact ⟨t, by have := HN.out; omega, by simpa [ht] using h⟩
      go_wp2
      go_ret
      exact FIN.out
end Go.Proofs.Ytghadpihmhaepaa
/- Contract of the document's Set: the right ranges of the numbers that are in some, and in none of others. -/
namespace Go.Proofs.Ytghadpihmhaepaa
open Go.RowKit

theorem fl_set (l : List Rg) : ∀ i, i < l.length → ∀ v : Nat, (fl l).set (i * 2 + 1) (.int .u64 (v : Nat)) = fl (l.set i ((l.getD i (0, 0)).1, v)) := by
  induction l with
  | nil => intro i hi; simp at hi
  | cons p l ih =>
    intro i hi v
    have e : fl (p :: l) = .int .u64 (p.1 : Nat) :: .int .u64 (p.2 : Nat) :: fl l := rfl
    rcases i with _ | i
    · rw [e]; rfl
    · have h1 : (i + 1) * 2 + 1 = i * 2 + 1 + 1 + 1 := by omega
      rw [h1, e, List.set_cons_succ, List.set_cons_succ, ih i (by simpa using hi) v]
      rfl
theorem OwnR.store {w : World} {base g cap : Nat} {l : List Rg} (h : OwnR w base (some ⟨g, 0, none⟩) cap l) {i : Nat} (hi : i < l.length) (v : Nat) :
    OwnR (w.setCell ⟨g, i * 2 + 1, none⟩ (.int .u64 (v : Nat))) base (some ⟨g, 0, none⟩) cap (l.set i ((l.getD i (0, 0)).1, v)) := by
  have hh : w.ownsRow base 71 2 (.slice (some ⟨g, 0, none⟩) l.length cap) l.length (fl l) := h
  have := (hh.stored (i * 2 + 1) (.int .u64 (v : Nat))).1
  rw [fl_set l i hi v] at this
  unfold OwnR
  rw [List.length_set]
  exact this
theorem OwnR.addr {w : World} {base cap : Nat} {a : Option Addr} {l : List Rg} (h : OwnR w base a cap l) (h0 : 0 < l.length) : ∃ g, a = some ⟨g, 0, none⟩ := by
  rcases h.2 with ⟨_, h1⟩ | ⟨g, cap', cur, hv, _⟩
  · omega
  · simp only [Value.slice.injEq] at hv
    exact ⟨g, hv.1⟩

def SRel2 (W : World) (l l' : List Rg) (c : List Nat) (v i : Value) (wr : World) : Prop :=
  ∃ (k m cap : Nat) (a : Option Addr) (out : List Rg), i = .int .i64 k ∧ v = .slice a m cap ∧ Hid (m = out.length) ∧ Hid (OwnR wr W.heap.size a cap out) ∧ Hid (SetTo l l' c k out) ∧ Hid (k < c.length ∨ (c = [] ∧ k = 0)) ∧ Hid (Frm [] W wr)

set_option maxRecDepth 100000 in
set_option maxHeartbeats 4000000 in
theorem set_any {w : World} {a a' : Option Addr} {l l' : List Rg} {n n' cap cap' : Nat} (h : Rr w a l) (hn : n = l.length) (hnil : a = none → cap = 0) (h' : Rr w a' l') (hn' : n' = l'.length) (hnil' : a' = none → cap' = 0) (hsz : n + n' ≤ 1000) :
    Calls Try.prog 34 #[.slice a n cap, .slice a' n' cap'] w (Got w (fun x => Mem l x ∧ ¬ Mem l' x) (2 * (n + n'))) := by
  obtain ⟨i0, hi0, hz0, hz1, hz2⟩ := info_parts Try.info71
  have HI0 := Lib.hid hi0; clear hi0
  have HZ0 := Lib.hid hz0; clear hz0
  have HZ1 := Lib.hid hz1; clear hz1
  have HZ2 := Lib.hid hz2; clear hz2
  have H := Lib.hid h; clear h
  have H' := Lib.hid h'; clear h'
  have HN := Lib.hid hn; clear hn
  have HN' := Lib.hid hn'; clear hn'
  have HL := Lib.hid hnil; clear hnil
  have HL' := Lib.hid hnil'; clear hnil'
  go_enter Try.func34, Try.ntmps34
  go_wp2_with (at_builtin; refine wpList_appR rfl (.tmp 9) (.tmp 10) 53 rfl w.heap.size 71 i0 Try.underlying53 HI0.out HZ0.out HZ1.out HZ2.out _ 0 (fl []) rfl ?own1 _ _ _ l rfl ?b1 HN.out HL.out ?fit1 ?base1 ?_)
  case own1 => exact World.ownsRow_lit w #[] 0 (Nat.le_refl _) (by unfold maxLen; omega) rfl
  case b1 => exact H.out.keep0 ((Frm.refl [] w).alloc _)
  case fit1 => omega
  case base1 => simp
  intro a1 c1 w1 happ
  have HF1 := Lib.hid (frm_app ((Frm.refl [] w).alloc _) happ (fun x hx => .inr (by cases hx; simp)))
  have HO1 := Lib.hid (own_app happ rfl HN.out)
  rw [List.nil_append] at HO1
  clear happ
  have hb1 : w.heap.size ≤ w1.heap.size := HF1.out.size
  go_wp2_with (at_builtin; refine wpList_appR rfl (.tmp 11) (.tmp 12) 53 rfl w.heap.size 71 i0 Try.underlying53 HI0.out HZ0.out HZ1.out HZ2.out _ n (fl l) rfl ?own2 _ _ _ l' rfl ?b2 HN'.out HL'.out ?fit2 hb1 ?_)
  case own2 => have h := HO1.out; unfold OwnR at h; rw [← HN.out] at h; exact h
  case b2 => exact H'.out.keep0 HF1.out
  case fit2 => omega
  intro a2 c2 w2 happ
  have HF2 := Lib.hid (frm_app HF1.out happ (fun x hx => .inr (HO1.out.lt x hx).1))
  have HO2 := Lib.hid (own_app happ HN.out HN'.out)
  clear happ hb1
  have EB : Hid (Bd (l ++ l')) := H.out.1 |> fun h => Bd.append h H'.out.1
  have ER := Lib.hid (rends_any (n := n + n') (cap := c2) (HO2.out.rr EB.out).1 (by rw [List.length_append, ← HN.out, ← HN'.out]) (by omega))
  go_wp2_with fail
  refine ER.out.mono ?_
  rintro e W ⟨ac, nc, cc, c, rfl, HNC, HUC, HSC, hlc, HF3⟩
  clear ER
  have EL : Hid (Ends l c) := fun p hp => ⟨(HSC.out.2 _).2 ⟨p, List.mem_append_left _ hp, .inl rfl⟩, (HSC.out.2 _).2 ⟨p, List.mem_append_left _ hp, .inr rfl⟩⟩
  have EL' : Hid (Ends l' c) := fun p hp => ⟨(HSC.out.2 _).2 ⟨p, List.mem_append_right _ hp, .inl rfl⟩, (HSC.out.2 _).2 ⟨p, List.mem_append_right _ hp, .inr rfl⟩⟩
  have HFW : Hid (Frm [] w W) := HF2.out.trans HF3.out (by simp) (by simp)
  have hnc : nc ≤ 2 * (n + n') := by have := HNC.out; omega
  clear hlc HF1 HO1 HF2 HO2 HF3
  go_wp2
  go_loopw [6, 7] (fun v i wr => SRel2 W l l' c v i wr) (fun _ i _ => nc - (intOf i).toNat)
  case atStart => exact ⟨0, 0, 0, none, [], rfl, rfl, rfl, OwnR.nil _ _, SetTo.zero HSC.out.1 EL.out, (by rcases Nat.eq_zero_or_pos c.length with h | h; exact .inr ⟨List.eq_nil_of_length_eq_zero h, rfl⟩; exact .inl h), (Frm.refl _ _ : Frm [] W W)⟩
  case round =>
    obtain ⟨k, m, cp, ak, out, rfl, rfl, HM, HO, HS, HK, HF⟩ := hrel
    have hkb : k ≤ nc := by have := HNC.out; rcases HK.out with h | h <;> omega
    have hmb : m ≤ k := by have := HM.out; have := HS.out.len; omega
    by_cases hlt : k + 1 < nc
    · have hlt' : (k : Int) + 1 < (nc : Int) := by omega
      have hltk : (k : Int) < (nc : Int) := by omega
      obtain ⟨bc, oc, rfl, hcc⟩ := HUC.out.1.2 (by have := HNC.out; omega)
      have dW0 := hcc k (by have := HNC.out; omega)
      have dW1 := hcc (k + 1) (by have := HNC.out; omega)
      have bk := u_bd HUC.out.1.1 k
      have bk1 := u_bd HUC.out.1.1 (k + 1)
      have HLT : Hid (k + 1 < c.length) := by show k + 1 < c.length; have := HNC.out; omega
      have HWF : Hid (Frm [] w wr) := HFW.out.trans HF.out (by simp) (by simp)
      clear hcc
      obtain ⟨ck, hck⟩ : ∃ ck, ck = c.getD k 0 := ⟨_, rfl⟩
      obtain ⟨cn, hcn⟩ : ∃ cn, cn = c.getD (k + 1) 0 := ⟨_, rfl⟩
      rw [← hck] at dW0 bk
      rw [← hcn] at dW1 bk1
      have CELLS : Hid (∀ w', Frm [] W w' → w'.cell? ⟨bc, oc + k, none⟩ = some (.int .u64 (ck : Nat)) ∧ w'.cell? ⟨bc, oc + (k + 1), none⟩ = some (.int .u64 (cn : Nat))) := fun w' hf => ⟨(hf.cell (p := ⟨bc, oc + k, none⟩) (block_lt_of_cell dW0) (by simp)).trans dW0, (hf.cell (p := ⟨bc, oc + (k + 1), none⟩) (block_lt_of_cell dW1) (by simp)).trans dW1⟩
      have d0 := (CELLS.out wr HF.out).1
      have d1 := (CELLS.out wr HF.out).2
      clear dW0 dW1
      have d1b := d1
      rw [← Nat.add_assoc] at d1b
      have CK := Lib.hid hck; clear hck
      have CN := Lib.hid hcn; clear hcn
      have IN1 := Lib.hid (in_any (x := ck) (cap := cap) (H.out.keep0 HWF.out) HN.out (by omega))
      have IN2 := Lib.hid (in_any (x := ck) (cap := cap') (H'.out.keep0 HWF.out) HN'.out (by omega))
      have hw1 : IntKind.i64.wrap ((k : Int) + 1) = (k : Int) + 1 := IntWalk.i64_in _ (by omega)
      by_cases m1 : Mem l ck
      · by_cases m2 : Mem l' ck
        · have NEXT : Hid (SRel2 W l l' c (.slice ak m cp) (.int .i64 ((k + 1 : Nat) : Int)) wr) := ⟨k + 1, m, cp, ak, out, rfl, rfl, HM, HO, HS.out.skip HSC.out.1 EL.out EL'.out HLT.out (.inr (by rw [← CK.out]; exact m2)), .inl HLT.out, HF⟩
          go_wp2_with fail
          refine IN1.out.mono ?_
          rintro e w' ⟨hbo, rfl⟩
          obtain ⟨rfl, _⟩ := hbo.yes m1
          clear hbo
          go_wp2_with fail
          refine IN2.out.mono ?_
          rintro e w' ⟨hbo, rfl⟩
          obtain ⟨rfl, _⟩ := hbo.yes m2
          clear hbo
          go_wp2
          go_roundw
          case rel => exact NEXT.out
          case measure => simp [intOf]; omega
        · have M1 : Hid (Mem l (c.getD k 0)) := by show Mem l (c.getD k 0); rw [← CK.out]; exact m1
          have M2 : Hid (¬ Mem l' (c.getD k 0)) := by show ¬ Mem l' (c.getD k 0); rw [← CK.out]; exact m2
          go_wp2_with fail
          refine IN1.out.mono ?_
          rintro e w' ⟨hbo, rfl⟩
          obtain ⟨rfl, _⟩ := hbo.yes m1
          clear hbo
          go_wp2_with fail
          refine IN2.out.mono ?_
          rintro e w' ⟨hbo, rfl⟩
          obtain ⟨rfl, _⟩ := hbo.no m2
          clear hbo m1 m2 IN1 IN2
          rcases Nat.eq_zero_or_pos m with hm0 | hm0
          · have k1 : decide (0 < m) = false := decide_eq_false (by omega)
            have k2 : decide ((0 : Int) < (m : Int)) = false := decide_eq_false (by omega)
            have GR := Lib.hid (HS.out.grow HSC.out.1 HUC.out.1.1 EL.out EL'.out HLT.out M1.out M2.out (.inl (by have := HM.out; omega)))
            clear hm0
            go_wp2
            go_quiet (fail)
            obtain ⟨W2, hW2⟩ : ∃ W2, W2 = wr.drewN nq := ⟨_, rfl⟩
            have f0 : W2.cell? ⟨bc, oc + k, none⟩ = some (.int .u64 (ck : Nat)) := by rw [hW2]; exact d0
            have f1 : W2.cell? ⟨bc, oc + (k + 1), none⟩ = some (.int .u64 (cn : Nat)) := by rw [hW2]; exact d1
            have HO2 : Hid (OwnR W2 W.heap.size ak cp out) := by rw [hW2]; exact HO.out
            have HF2 : Hid (Frm [] W W2) := by rw [hW2]; exact HF.out.drewN nq
            rw [← hW2]
            clear hW2 d0 d1 d1b
            go_wp2
            have z1 : (0 : Int) ≤ (k : Int) + 1 := by omega
            have z2 : ((k : Int) + 1).toNat = k + 1 := by omega
            have hb2 : W.heap.size ≤ W2.heap.size := HF2.out.size
            have OWN : Hid ((W2.alloc (.cells #[.int .u64 (ck : Nat), .int .u64 (cn : Nat)] 71)).drew.ownsRow W.heap.size 71 2 (.slice ak m cp) m (fl out)) := by
              have h := HO2.out
              unfold OwnR at h
              rw [← HM.out] at h
              exact own_drew (h.alloc _)
            have ONE : Hid (Rr (W2.alloc (.cells #[.int .u64 (ck : Nat), .int .u64 (cn : Nat)] 71)).drew (some ⟨W2.heap.size, 0, none⟩) [(ck, cn)]) := (one_rg (W := W2) (ck, cn) ⟨bk, bk1⟩).keep0 (Frm.drew1 _)
            go_region_held3 (fun w' => w'.cell? ⟨bc, oc + k, none⟩ = some (.int .u64 (ck : Nat)) ∧ w'.cell? ⟨bc, oc + (k + 1), none⟩ = some (.int .u64 (cn : Nat))) (first | go_keep | exact CELLS.out _ hf5) ((refine step_appR rfl (.tmp 64) (.tmp 75) 53 rfl W.heap.size 71 i0 Try.underlying53 HI0.out HZ0.out HZ1.out HZ2.out _ m (fl out) rfl OWN.out _ 1 1 [(ck, cn)] rfl ONE.out rfl (by intro h; cases h) (by omega) (by simp; omega) ?_; intro a5 c5 w5 happ; have hf5 : Frm [] W w5 := frm_app (HF2.out.alloc _).drew happ (fun x hx => .inr (HO2.out.lt x hx).1)))
            have NEXT : Hid (SRel2 W l l' c (.slice a5 (m + 1) c5) (.int .i64 ((k + 1 : Nat) : Int)) w5) := by
              refine ⟨k + 1, m + 1, c5, a5, out ++ [(ck, cn)], rfl, rfl, ?_, own_app happ HM.out rfl, ?_, .inl HLT.out, hf5⟩
              · show m + 1 = _; rw [List.length_append]; have := HM.out; simp; omega
              · have := GR.out
                rw [← CK.out, ← CN.out] at this
                exact this
            clear happ hb2 hf5
            go_wp2
            go_roundw
            case rel => exact NEXT.out
            case measure => simp [intOf]; omega
          · obtain ⟨g, rfl⟩ := HO.out.addr (by have := HM.out; omega)
            obtain ⟨j, hj⟩ : ∃ j, j = m - 1 := ⟨_, rfl⟩
            have hh : wr.ownsRow W.heap.size 71 2 (.slice (some ⟨g, 0, none⟩) out.length cp) out.length (fl out) := HO.out
            have e0 : wr.cell? ⟨g, j * 2 + 1, none⟩ = some (.int .u64 ((out.getD j (0, 0)).2 : Nat)) := by
              rw [hh.cellAt (j * 2 + 1) (by have := HM.out; omega)]
              exact (fl_at out j (by have := HM.out; omega)).2
            have e1 := hh.frozenAt (j * 2 + 1)
            have bj := getD_bd HS.out.bd j
            obtain ⟨y, hy⟩ : ∃ y, y = (out.getD j (0, 0)).2 := ⟨_, rfl⟩
            rw [← hy] at e0 bj
            have HY := Lib.hid hy; clear hy hh
            have hwj : IntKind.i64.wrap ((m : Int) - 1) = (j : Int) := by rw [IntWalk.i64_in _ (by omega)]; omega
            have hjm : (j : Int) < (m : Int) := by omega
            have HJ : Hid (j = out.length - 1) := by show j = _; have := HM.out; omega
            have k1 : decide (0 < m) = true := decide_eq_true (by omega)
            have k2 : decide ((0 : Int) < (m : Int)) = true := decide_eq_true (by omega)
            by_cases hyc : y = ck
            · have q1 : ((y : Int) == (ck : Int)) = true := by simp; omega
              have ST := Lib.hid (HS.out.stretch HSC.out.1 HUC.out.1.1 EL.out EL'.out HLT.out M1.out M2.out (by have := HM.out; omega) (by rw [← HJ.out, ← HY.out, ← CK.out]; exact hyc))
              have NEXT : Hid (∀ q, SRel2 W l l' c (.slice (some ⟨g, 0, none⟩) m cp) (.int .i64 ((k + 1 : Nat) : Int)) (((wr.drewN q).setCell ⟨g, j * 2 + 1, none⟩ (.int .u64 (cn : Nat))))) := by
                intro q
                refine ⟨k + 1, m, cp, some ⟨g, 0, none⟩, out.set j ((out.getD j (0, 0)).1, cn), rfl, rfl, ?_, OwnR.store (w := wr.drewN q) HO.out (i := j) (by have := HM.out; omega) cn, ?_, .inl HLT.out, ?_⟩
                · show m = _; rw [List.length_set]; exact HM.out
                · have := ST.out
                  rw [← HJ.out, ← CN.out] at this
                  exact this
                · exact (HF.out.drewN q).setCell (p := ⟨g, j * 2 + 1, none⟩) (.inr (HO.out.lt _ rfl).1) _
              clear hyc ST hj hm0
              go_wp2
              go_quiet (fail)
              go_wp2
              go_roundw
              case rel => exact NEXT.out nq
              case measure => simp [intOf]; omega
            · have q1 : ((y : Int) == (ck : Int)) = false := by simp; omega
              have GR := Lib.hid (HS.out.grow HSC.out.1 HUC.out.1.1 EL.out EL'.out HLT.out M1.out M2.out (.inr (by rw [← HJ.out, ← HY.out, ← CK.out]; exact hyc)))
              clear hyc hj hm0 bj
              go_wp2
              go_quiet (fail)
              clear e0 e1
              obtain ⟨W2, hW2⟩ : ∃ W2, W2 = wr.drewN nq := ⟨_, rfl⟩
              have f0 : W2.cell? ⟨bc, oc + k, none⟩ = some (.int .u64 (ck : Nat)) := by rw [hW2]; exact d0
              have f1 : W2.cell? ⟨bc, oc + (k + 1), none⟩ = some (.int .u64 (cn : Nat)) := by rw [hW2]; exact d1
              have HO2 : Hid (OwnR W2 W.heap.size (some ⟨g, 0, none⟩) cp out) := by rw [hW2]; exact HO.out
              have HF2 : Hid (Frm [] W W2) := by rw [hW2]; exact HF.out.drewN nq
              rw [← hW2]
              clear hW2 d0 d1 d1b
              go_wp2
              have z1 : (0 : Int) ≤ (k : Int) + 1 := by omega
              have z2 : ((k : Int) + 1).toNat = k + 1 := by omega
              have hb2 : W.heap.size ≤ W2.heap.size := HF2.out.size
              have OWN : Hid ((W2.alloc (.cells #[.int .u64 (ck : Nat), .int .u64 (cn : Nat)] 71)).drew.ownsRow W.heap.size 71 2 (.slice (some ⟨g, 0, none⟩) m cp) m (fl out)) := by
                have h := HO2.out
                unfold OwnR at h
                rw [← HM.out] at h
                exact own_drew (h.alloc _)
              have ONE : Hid (Rr (W2.alloc (.cells #[.int .u64 (ck : Nat), .int .u64 (cn : Nat)] 71)).drew (some ⟨W2.heap.size, 0, none⟩) [(ck, cn)]) := (one_rg (W := W2) (ck, cn) ⟨bk, bk1⟩).keep0 (Frm.drew1 _)
              go_region_held3 (fun w' => w'.cell? ⟨bc, oc + k, none⟩ = some (.int .u64 (ck : Nat)) ∧ w'.cell? ⟨bc, oc + (k + 1), none⟩ = some (.int .u64 (cn : Nat))) (first | go_keep | exact CELLS.out _ hf5) ((refine step_appR rfl (.tmp 64) (.tmp 75) 53 rfl W.heap.size 71 i0 Try.underlying53 HI0.out HZ0.out HZ1.out HZ2.out _ m (fl out) rfl OWN.out _ 1 1 [(ck, cn)] rfl ONE.out rfl (by intro h; cases h) (by omega) (by simp; omega) ?_; intro a5 c5 w5 happ; have hf5 : Frm [] W w5 := frm_app (HF2.out.alloc _).drew happ (fun x hx => .inr (HO2.out.lt x hx).1)))
              have NEXT : Hid (SRel2 W l l' c (.slice a5 (m + 1) c5) (.int .i64 ((k + 1 : Nat) : Int)) w5) := by
                refine ⟨k + 1, m + 1, c5, a5, out ++ [(ck, cn)], rfl, rfl, ?_, own_app happ HM.out rfl, ?_, .inl HLT.out, hf5⟩
                · show m + 1 = _; rw [List.length_append]; have := HM.out; simp; omega
                · have := GR.out
                  rw [← CK.out, ← CN.out] at this
                  exact this
              clear happ hb2 hf5
              go_wp2
              go_roundw
              case rel => exact NEXT.out
              case measure => simp [intOf]; omega
      · have NEXT : Hid (SRel2 W l l' c (.slice ak m cp) (.int .i64 ((k + 1 : Nat) : Int)) wr) := ⟨k + 1, m, cp, ak, out, rfl, rfl, HM, HO, HS.out.skip HSC.out.1 EL.out EL'.out HLT.out (.inl (by rw [← CK.out]; exact m1)), .inl HLT.out, HF⟩
        go_wp2_with fail
        refine IN1.out.mono ?_
        rintro e w' ⟨hbo, rfl⟩
        obtain ⟨rfl, _⟩ := hbo.no m1
        clear hbo
        go_wp2
        go_roundw
        case rel => exact NEXT.out
        case measure => simp [intOf]; omega
    · have hlt' : ¬ (k : Int) + 1 < (nc : Int) := by omega
      have FIN : Hid (Got w (fun x => Mem l x ∧ ¬ Mem l' x) (2 * (n + n')) (.returned (.slice ak m cp)) wr) :=
        ⟨out, retR_from HFW.out (RetR.of HM.out HO.out HF.out), HS.out.rt, HS.out.bd, HS.out.done HSC.out.1 EL.out (by have := HNC.out; omega) HK.out, by have := HM.out; omega⟩
      go_wp2
      go_ret
      exact FIN.out
end Go.Proofs.Ytghadpihmhaepaa
/- What tight comes to. -/
namespace Go.Proofs.Ytghadpihmhaepaa
open Go.RowKit

/-- One step of the mark. -/
def Step (X : List Ld) (o : Nat) (H : List Hel) (m m' : Ps) : Prop := ∃ p, nextP X o m = some p ∧ Mem (ofH H p.l) p.e ∧ m'.l = p.l ∧ GapOf (ofH H p.l) p.e m'.e
inductive Reach (X : List Ld) (o : Nat) (H : List Hel) : Ps → Ps → Prop where
  | refl (m : Ps) : Reach X o H m m
  | step {m a b : Ps} : Reach X o H m a → Step X o H a b → Reach X o H m b
def Stop (X : List Ld) (o : Nat) (H : List Hel) (m : Ps) : Prop := ∀ p, nextP X o m = some p → ¬ Mem (ofH H p.l) p.e
/-- How many entries aren't ahead of it. -/
def restP (X : List Ld) (o : Nat) (m : Ps) : Nat := (allP X o).countP (fun q => decide (¬ q.lt m))
theorem countP_lt {α : Type} {P Q : α → Bool} {L : List α} (h : ∀ x ∈ L, P x = true → Q x = true) {y : α} (hy : y ∈ L) (h1 : Q y = true) (h2 : P y = false) : L.countP P < L.countP Q := by
  induction L with
  | nil => cases hy
  | cons x L ih =>
    have hle : L.countP P ≤ L.countP Q := List.countP_mono_left (fun z hz => h z (List.mem_cons_of_mem _ hz))
    rw [List.countP_cons, List.countP_cons]
    rcases List.mem_cons.1 hy with rfl | hm
    · rw [h1, h2]; simp; omega
    · have := ih (fun z hz => h z (List.mem_cons_of_mem _ hz)) hm
      have hx := h x (by simp)
      cases hp : P x
      · simp; omega
      · rw [hx hp]; simp; omega
theorem Step.rest {X : List Ld} {o : Nat} {H : List Hel} {m m' : Ps} (h : Step X o H m m') : restP X o m' < restP X o m := by
  obtain ⟨p, hn, hm, hl, hg⟩ := h
  have hge := nextP_ge hn
  have hlt : p.lt m' := by
    right
    refine ⟨hl.symm, ?_⟩
    have h1 := hg.1
    rcases Nat.lt_or_eq_of_le h1 with h2 | h2
    · exact h2
    · exact absurd hm (by rw [h2]; exact hg.2.1)
  rw [← nextP_find] at hn
  have hmem := List.mem_of_find?_eq_some hn
  refine countP_lt (fun q _ hq => ?_) hmem (by simpa using hge) (by simpa using hlt)
  simp only [decide_eq_true_eq] at hq ⊢
  intro h2
  apply hq
  clear hmem hq hn hg hm hl
  unfold Ps.lt at *
  omega
theorem Step.uniq {X : List Ld} {o : Nat} {H : List Hel} {m a b : Ps} (h : Step X o H m a) (k : Step X o H m b) : a = b := by
  obtain ⟨p, hn, hm, hl, hg⟩ := h
  obtain ⟨q, kn, km, kl, kg⟩ := k
  rw [hn] at kn
  cases kn
  exact Ps.ext' (hl.trans kl.symm) (hg.uniq kg)
/-- Without what lies below e. -/
def minR (R : List Rg) (e : Nat) : List Rg := (R.filter (fun p => decide (e < p.2))).map (fun p => (max p.1 e, p.2))
theorem mem_minR (R : List Rg) (e n : Nat) : Mem (minR R e) n ↔ Mem R n ∧ e ≤ n := by
  unfold minR Mem
  constructor
  · rintro ⟨p, hp, h1, h2⟩
    obtain ⟨q, hq, rfl⟩ := List.mem_map.1 hp
    obtain ⟨hq1, hq2⟩ := List.mem_filter.1 hq
    simp only at h1 h2
    exact ⟨⟨q, hq1, by omega, h2⟩, by omega⟩
  · rintro ⟨⟨q, hq, h1, h2⟩, h3⟩
    exact ⟨_, List.mem_map.2 ⟨q, List.mem_filter.2 ⟨hq, by simp; omega⟩, rfl⟩, by simp only; omega, h2⟩
theorem rt_minR {R : List Rg} (h : Rt R) (e : Nat) : Rt (minR R e) := by
  unfold minR
  refine ⟨fun p hp => ?_, ?_⟩
  · obtain ⟨q, hq, rfl⟩ := List.mem_map.1 hp
    obtain ⟨hq1, hq2⟩ := List.mem_filter.1 hq
    have := h.1 q hq1
    simp at hq2
    show max q.1 e < q.2
    omega
  · rw [List.pairwise_map]
    refine List.Pairwise.imp_of_mem ?_ (List.Pairwise.sublist List.filter_sublist h.2)
    intro a b ha hb hab
    show a.2 < max b.1 e
    omega
def stepT (M : Ps) (S : List Hel) (h : Hel) : List Hel := if h.1 < M.l then holdH h.1 [] S else if h.1 = M.l then holdH h.1 (minR h.2 M.e) S else S
def tightH (M : Ps) (H : List Hel) : List Hel := H.foldl (stepT M) H
theorem holdH_len (led : Nat) (l : List Rg) (H : List Hel) : (holdH led l H).length ≤ H.length + 1 := by
  unfold holdH
  have h1 : (H.filter (fun h => decide (h.1 < led))).length + (H.filter (fun h => decide (led < h.1))).length ≤ H.length := by
    induction H with
    | nil => simp
    | cons h H ih =>
      rcases Nat.lt_trichotomy h.1 led with h2 | h2 | h2
      · rw [List.filter_cons_of_pos (by simp; omega), List.filter_cons_of_neg (by simp; omega)]; simp; omega
      · rw [List.filter_cons_of_neg (by simp; omega), List.filter_cons_of_neg (by simp; omega)]; simp; omega
      · rw [List.filter_cons_of_neg (by simp; omega), List.filter_cons_of_pos (by simp; omega)]; simp; omega
  rw [List.length_append, List.length_append]
  split <;> simp <;> omega
/-- What Set answers. -/
def GotS (w : World) (S : Nat → Prop) (e : Ending) (w' : World) : Prop := ∃ (a : Option Addr) (m c : Nat) (out : List Rg), e = .returned (.slice a m c) ∧ Hid (m = out.length) ∧ Hid (Rr w' a out ∧ (a = none → c = 0) ∧ out.length ≤ c ∧ c ≤ 9223372036854775807) ∧ Hid (∀ q, a = some q → w.heap.size ≤ q.block) ∧ Hid (Rt out) ∧ Hid (∀ x, Mem out x ↔ S x) ∧ Hid (Frm [] w w')
theorem Got.s {w w' : World} {S : Nat → Prop} {m : Nat} {e : Ending} (h : Got w S m e w') : GotS w S e w' := by
  obtain ⟨out, ⟨a, c, rfl, ho, hf⟩, h2, h3, h4, h5⟩ := h
  have hr := ho.rr h3
  refine ⟨a, out.length, c, out, rfl, rfl, ⟨hr.1, hr.2.1, hr.2.2.1, by have := hr.2.2.2; unfold maxLen at this; omega⟩, fun q hq => ?_, h2, h4, hf⟩
  rcases ho.2 with ⟨h6, _⟩ | ⟨g, cap, cur, hv, hb, r⟩
  · simp only [Value.slice.injEq] at h6
    rw [h6.1] at hq; cases hq
  · simp only [Value.slice.injEq] at hv
    rw [hv.1] at hq
    cases hq
    exact hb
end Go.Proofs.Ytghadpihmhaepaa
/- Contract of the program's with. -/
namespace Go.Proofs.Ytghadpihmhaepaa
open Go.RowKit
set_option maxRecDepth 100000

/-- What a slice that came in, or was made, has room for. -/
def CapOk (a : Option Addr) (n cap : Nat) : Prop := (a = none → cap = 0) ∧ n ≤ cap ∧ cap ≤ 9223372036854775807
/-- What Add, Remove answer, all of it. -/
def GotX (w : World) (S : Nat → Prop) (m : Nat) (e : Ending) (w' : World) : Prop := ∃ (a : Option Addr) (k c : Nat) (out : List Rg), e = .returned (.slice a k c) ∧ Hid (k = out.length) ∧ Hid (Rr w' a out ∧ CapOk a out.length c ∧ (∀ q, a = some q → w.heap.size ≤ q.block)) ∧ Hid (Rt out ∧ (∀ x, Mem out x ↔ S x) ∧ out.length ≤ m) ∧ Hid (Frm [] w w')
theorem Got.x {w w' : World} {S : Nat → Prop} {m : Nat} {e : Ending} (h : Got w S m e w') : GotX w S m e w' := by
  obtain ⟨out, ⟨a, c, rfl, ho, hf⟩, h2, h3, h4, h5⟩ := h
  have hr := ho.rr h3
  refine ⟨a, out.length, c, out, rfl, rfl, ⟨hr.1, ⟨hr.2.1, hr.2.2.1, by have := hr.2.2.2; unfold maxLen at this; omega⟩, fun q hq => (ho.lt q hq).1⟩, ⟨h2, h4, h5⟩, hf⟩
theorem own_from {w : World} {base base' : Nat} {e : TypeId} {size : Nat} {v : Value} {n : Nat} {xs : List Value} (h : w.ownsRow base e size v n xs) (hb : base' ≤ base) : w.ownsRow base' e size v n xs := by
  obtain ⟨o1, o2⟩ := h
  refine ⟨o1, ?_⟩
  rcases o2 with o2 | ⟨g, cap, cur, hv, hb, r⟩
  · exact .inl o2
  · exact .inr ⟨g, cap, cur, hv, by omega, r⟩
theorem size_he (w : World) : (Go.sizeOf 55).run Try.prog w = .ok 2 w := by kernel_rfl
theorem run_cutH_h (w : World) (a : Option Addr) (n cap hi : Nat) (h : Int) (hh : h = (hi : Nat)) (h2 : hi ≤ cap) :
    (Instr.slice 26 (.slice a n cap) none (some (.int .i64 h)) none).run Try.prog w = .ok (.slice (cutR a cap 0) hi cap) w := by
  subst hh
  have ht' : Try.prog.underlying 26 = some (.slice (Try.prog.elem 26)) := by simp [Program.elem, Try.underlying26]
  have he : Try.prog.elem 26 = 55 := by simp [Program.elem, Try.underlying26]
  rw [run_slice_h w _ _ _ _ ht' _ _ (by omega) (by omega), he, size_he]
  simp [Result.andThen, sliced, cutR]
theorem run_cutH_l (w : World) (a : Option Addr) (n cap lo : Nat) (l : Int) (hl : l = (lo : Nat)) (h1 : lo ≤ n) :
    (Instr.slice 26 (.slice a n cap) (some (.int .i64 l)) none none).run Try.prog w = .ok (.slice (cutR a cap lo) (n - lo) (cap - lo)) w := by
  subst hl
  have ht' : Try.prog.underlying 26 = some (.slice (Try.prog.elem 26)) := by simp [Program.elem, Try.underlying26]
  have he : Try.prog.elem 26 = 55 := by simp [Program.elem, Try.underlying26]
  rw [run_slice_l w _ _ _ _ ht' _ _ (by omega) (by omega), he, size_he]
  simp [Result.andThen, sliced, cutR]
theorem cutR_some {a : Option Addr} {cap lo : Nat} {q : Addr} (h : cutR a cap lo = some q) : ∃ r, a = some r ∧ q.block = r.block := by
  unfold cutR at h
  split at h
  · exact ⟨q, h, rfl⟩
  · cases a with
    | none => simp at h
    | some r => simp at h; exact ⟨r, rfl, by rw [← h]; unfold Addr.add; split <;> rfl⟩
theorem HxL.cut {w : World} {F : List Nat} {a : Option Addr} {X : List Hx} {cap : Nat} (h : HxL w F a X) (hc : X.length ≤ cap) (lo : Nat) : HxL w F (cutR a cap lo) (X.drop lo) := by
  refine ⟨?_, h.ok.sub (fun x hx => List.mem_of_mem_drop hx), fun hne q hq => ?_⟩
  · rw [hxc_drop]
    rcases h.vals with h' | ⟨b, off, rfl, hcl⟩
    · exact .inl (by rw [h']; simp)
    · unfold cutR
      split
      · rename_i he
        refine .inl ?_
        have : (hxc X).length ≤ lo * 2 := by rw [hxc_length]; omega
        rw [List.drop_eq_nil_of_le this]
      · refine .inr ⟨b, off + lo * 2, by simp [addr_add], fun i u hu => ?_⟩
        rw [List.getElem?_drop] at hu
        have := hcl _ _ hu
        rwa [← Nat.add_assoc] at this
  · obtain ⟨r, hr, hb⟩ := cutR_some hq
    rw [hb]
    exact h.away (by rintro rfl; simp at hne) r hr
theorem cqcat_lit {W : World} {F : List Nat} {sA sK sB : HxSl} (hA : HxSlIn W F sA) (hK : HxSlIn W F sK) (hB : HxSlIn W F sB) (hF : ∀ x ∈ F, x < W.heap.size) (hfit : sA.l.length + sK.l.length + sB.l.length ≤ 100000) :
    Calls Try.prog 70 #[.slice (some ⟨W.heap.size, 0, none⟩) 3 3] (W.alloc (.cells #[.slice sA.a sA.l.length sA.cap, .slice sK.a sK.l.length sK.cap, .slice sB.a sB.l.length sB.cap] 26)).drew fun e w' => ∃ a' cap', e = .returned (.slice a' (sA.l ++ (sK.l ++ sB.l)).length cap') ∧ HxOwn w' W.heap.size 55 F a' cap' (sA.l ++ (sK.l ++ sB.l)) ∧ Frm [] W w' := by
  have hf : Frm [] W (W.alloc (.cells #[.slice sA.a sA.l.length sA.cap, .slice sK.a sK.l.length sK.cap, .slice sB.a sB.l.length sB.cap] 26)).drew := ((Frm.refl _ _).alloc _).drew
  have hw : Whole (W.alloc (.cells #[.slice sA.a sA.l.length sA.cap, .slice sK.a sK.l.length sK.cap, .slice sB.a sB.l.length sB.cap] 26)).drew W.heap.size 26 #[.slice sA.a sA.l.length sA.cap, .slice sK.a sK.l.length sK.cap, .slice sB.a sB.l.length sB.cap] := (Whole.made W _ _).drew
  have hin : HxSlsIn (W.alloc (.cells #[.slice sA.a sA.l.length sA.cap, .slice sK.a sK.l.length sK.cap, .slice sB.a sB.l.length sB.cap] 26)).drew F W.heap.size [sA, sK, sB] := by
    intro k hk
    simp at hk
    have hc := hw.cell k
    rcases k with _ | _ | _ | k
    · exact ⟨hc, hA.keep hf⟩
    · exact ⟨hc, hK.keep hf⟩
    · exact ⟨hc, hB.keep hf⟩
    · omega
  have e : hxall [sA, sK, sB] = sA.l ++ (sK.l ++ sB.l) := by simp [hxall]
  refine (cqconcat_any (n := 3) hin (fun x hx => Nat.lt_of_lt_of_le (hF x hx) hf.size) rfl (by decide) (by rw [e]; simp; omega)).mono fun x w' h => ?_
  rw [e] at h
  obtain ⟨a, c, rfl, ho, hf'⟩ := h
  exact ⟨a, c, rfl, ⟨own_from ho.own hf.size, ho.ok, ho.away⟩, hf.trans hf' (by simp) (by simp)⟩
/-- What with answers. -/
def WithEnd (w : World) (F : List Nat) (Y : List Hx) (p : Ps) (e : Ending) (w' : World) : Prop := ∃ (R : List Rg) (Z : List Hx) (a : Option Addr) (zn c : Nat), e = .returned (.slice a zn c) ∧ Hid (zn = Z.length) ∧ Hid (hels Z = holdH p.l R (hels Y) ∧ Z.length ≤ Y.length + 1) ∧ Hid (Rt R ∧ (∀ x, Mem R x ↔ Mem (ofH (hels Y) p.l) x ∨ x = p.e) ∧ R.length ≤ (ofH (hels Y) p.l).length + 1) ∧ Hid (HxL w' F a Z ∧ CapOk a Z.length c) ∧ Hid (Frm [] w w')
theorem cqcat_one {W : World} {F : List Nat} {sA sB : HxSl} {x : Hx} (hA : HxSlIn W F sA) (hB : HxSlIn W F sB) (hx : HxOk W F x) (hF : ∀ x ∈ F, x < W.heap.size) {nA nB nx : Nat} (hnA : nA = sA.l.length) (hnB : nB = sB.l.length) (hnx : nx = x.t.2.length) (hfit : sA.l.length + 1 + sB.l.length ≤ 100000) :
    Calls Try.prog 70 #[.slice (some ⟨W.heap.size + 1, 0, none⟩) 3 3] ((W.alloc (.cells #[.int .u64 (x.t.1 : Nat), .slice x.a nx x.c] 55)).alloc (.cells #[.slice sA.a nA sA.cap, .slice (some ⟨W.heap.size, 0, none⟩) 1 1, .slice sB.a nB sB.cap] 26)).drew fun e w' => ∃ a' cap', e = .returned (.slice a' (sA.l ++ ([x] ++ sB.l)).length cap') ∧ HxOwn w' W.heap.size 55 F a' cap' (sA.l ++ ([x] ++ sB.l)) ∧ Frm [] W w' := by
  subst hnA hnB hnx
  have hf : Frm [] W (W.alloc (.cells #[.int .u64 (x.t.1 : Nat), .slice x.a x.t.2.length x.c] 55)) := (Frm.refl _ _).alloc _
  have hr : HxL (W.alloc (.cells #[.int .u64 (x.t.1 : Nat), .slice x.a x.t.2.length x.c] 55)) F (some ⟨W.heap.size, 0, none⟩) [x] := by
    refine ⟨hxvals_one W x _, fun y hy => ?_, fun _ q hq hm => ?_⟩
    · simp only [List.mem_singleton] at hy
      subst hy
      exact hx.keep hf (by simp) (fun x hx => .inl hx)
    · cases hq
      have := hF _ hm
      simp at this
  have h := cqcat_lit (F := F) (sK := ⟨some ⟨W.heap.size, 0, none⟩, 1, [x]⟩) (hA.keep hf) ⟨hr, fun h => by simp at h, by simp, by simp⟩ (hB.keep hf) (fun x hx => Nat.lt_of_lt_of_le (hF x hx) hf.size) (by simpa using hfit)
  have e : (W.alloc (.cells #[.int .u64 (x.t.1 : Nat), .slice x.a x.t.2.length x.c] 55)).heap.size = W.heap.size + 1 := by simp
  rw [e] at h
  exact h.mono fun _ w' ⟨a, c, h1, h2, h3⟩ => ⟨a, c, h1, ⟨own_from h2.own (by omega), h2.ok, h2.away⟩, hf.trans h3 (by simp) (by simp)⟩
theorem atH_hold {X : List Hx} {led i : Nat} {b : Bool} (h : AtH X led i b) (hs : Srt (hels X)) (x : Hx) (hx : x.t.1 = led) (hne : x.t.2 ≠ []) : hels (X.take i ++ ([x] ++ X.drop (if b then i + 1 else i))) = holdH led x.t.2 (hels X) := by
  have key : ∀ (Z : List Hx), (∀ z ∈ Z, ∃ t, t < X.length ∧ z = X.getD t default) → True := fun _ _ => trivial
  have tk : ∀ z ∈ X.take i, z.t.1 < led := fun z hz => by
    obtain ⟨t, ht, rfl⟩ := List.mem_iff_getElem.1 hz
    rw [List.length_take] at ht
    have := h.low t (by omega)
    unfold keyX at this
    rw [List.getElem_take]
    simpa [show t < X.length by omega] using this
  have dr : ∀ z ∈ X.drop i, led ≤ z.t.1 := fun z hz => by
    obtain ⟨t, ht, rfl⟩ := List.mem_iff_getElem.1 hz
    rw [List.length_drop] at ht
    have := h.high (i + t) (by omega) (by omega)
    unfold keyX at this
    rw [List.getElem_drop]
    simpa [show i + t < X.length by omega] using this
  have dr2 : ∀ z ∈ X.drop (if b then i + 1 else i), led < z.t.1 := fun z hz => by
    obtain ⟨t, ht, rfl⟩ := List.mem_iff_getElem.1 hz
    rw [List.length_drop] at ht
    rw [List.getElem_drop]
    cases b with
    | true =>
      obtain ⟨h1, h2⟩ := h.is.1 rfl
      simp only [if_true] at ht ⊢
      have := srt_lt hs (i := i) (j := i + 1 + t) (by omega) (by omega)
      rw [h2] at this
      unfold keyX at this
      simpa [show i + 1 + t < X.length by omega] using this
    | false =>
      simp only [Bool.false_eq_true, if_false] at ht ⊢
      have h1 := h.high (i + t) (by omega) (by omega)
      have h2 : ¬ keyX X (i + t) = led := fun h3 => by
        by_cases h0 : t = 0
        · subst h0
          exact absurd (h.is.2 ⟨by omega, h3⟩) (by simp)
        · have h4 := srt_lt hs (i := i) (j := i + t) (by omega) (by omega)
          have h5 := h.high i (Nat.le_refl _) (by omega)
          omega
      unfold keyX at h1 h2
      have e : (X.getD (i + t) default) = X[i + t]'(by omega) := by simp [show i + t < X.length by omega]
      rw [e] at h1 h2
      omega
  have mid : ∀ z ∈ X.take (if b then i + 1 else i), ¬ led < z.t.1 := fun z hz => by
    obtain ⟨t, ht, rfl⟩ := List.mem_iff_getElem.1 hz
    rw [List.length_take] at ht
    rw [List.getElem_take]
    have e : (X.getD t default) = X[t]'(by omega) := by simp [show t < X.length by omega]
    cases b with
    | true =>
      obtain ⟨h1, h2⟩ := h.is.1 rfl
      simp only [if_true] at ht
      by_cases h0 : t = i
      · subst h0
        unfold keyX at h2
        rw [e] at h2
        omega
      · have := h.low t (by omega)
        unfold keyX at this
        rw [e] at this
        omega
    | false =>
      simp only [Bool.false_eq_true, if_false] at ht
      have := h.low t (by omega)
      unfold keyX at this
      rw [e] at this
      omega
  have f1 : X.filter (fun z => decide (z.t.1 < led)) = X.take i := by
    conv => lhs; rw [← List.take_append_drop i X]
    rw [List.filter_append, filter_all (fun z hz => by simpa using tk z hz), filter_nil (fun z hz => by have := dr z hz; simp; omega), List.append_nil]
  have f2 : X.filter (fun z => decide (led < z.t.1)) = X.drop (if b then i + 1 else i) := by
    conv => lhs; rw [← List.take_append_drop (if b then i + 1 else i) X]
    rw [List.filter_append, filter_nil (p := fun z : Hx => decide (led < z.t.1)) (fun z hz => by have := mid z hz; simp; omega), filter_all (fun z hz => by simpa using dr2 z hz), List.nil_append]
  unfold holdH
  rw [if_neg hne, ← hels_filter X (fun h => decide (h.1 < led)), ← hels_filter X (fun h => decide (led < h.1)), f1, f2, hels_append, hels_append, List.append_assoc]
  congr 2
  show [x.t] = _
  rw [← hx]
set_option maxHeartbeats 8000000 in
theorem cqwith_any (a : Option Addr) (n cap : Nat) (F : List Nat) (Y : List Hx) (p : Ps) (w : World) (h : HxL w F a Y) (hs : Srt (hels Y)) (hn : n = Y.length) (hsz : n ≤ 1000) (hc : CapOk a n cap) (hr : RgsOk Y) (hF : ∀ x ∈ F, x < w.heap.size) (hpl : p.l < 18446744073709551616) (hpe : p.e + 1 < 18446744073709551616) :
    Calls Try.prog 36 #[.slice a n cap, p.val] w (WithEnd w F Y p) := by
  obtain ⟨w1, hw1⟩ : ∃ w1, w1 = w.alloc (.cells #[.int .u64 (p.l : Nat), .int .u64 (p.e : Nat)] 25) := ⟨_, rfl⟩
  obtain ⟨g, hg⟩ : ∃ g, g = w.heap.size := ⟨_, rfl⟩
  have F1 : Hid (Frm [] w w1) := Lib.hid (by rw [hw1]; exact (Frm.refl _ _).alloc _)
  have B1 : Hid (Whole w1 g 25 #[.int .u64 (p.l : Nat), .int .u64 (p.e : Nat)]) := Lib.hid (by rw [hw1, hg]; exact Whole.made _ _ _)
  have FIND := Lib.hid (fun z (hz : Frm [] w z) => cqfind_any (cap := cap) p.l (h.sub hz) hs hn (by omega))
  have OF := Lib.hid (fun z (hz : Frm [] w z) => cqof_any (cap := cap) p.l (h.sub hz) hs hn (by omega))
  have ADD : Hid (∀ (z : World) (ar : Option Addr) (cr : Nat), Rr z ar (ofH (hels Y) p.l) → CapOk ar (ofH (hels Y) p.l).length cr → Calls Try.prog 69 #[.slice ar (ofH (hels Y) p.l).length cr, .agg #[.int .u64 (p.e : Nat), .int .u64 ((p.e + 1 : Nat) : Int)]] z (GotX z (fun x => Mem (ofH (hels Y) p.l) x ∨ (p.e ≤ x ∧ x < p.e + 1)) ((ofH (hels Y) p.l).length + 1))) := Lib.hid (fun z ar cr hz hcr => (add_some hz (ofH_ok hr _).2 rfl hcr.2.1 hcr.2.2 hcr.1 (by have := (ofH_ok hr p.l).1; omega) (by omega) hpe).mono fun e w' h => h.x)
  have HH := Lib.hid h
  have HN := Lib.hid hn; clear hn
  have HC := Lib.hid hc; clear hc
  have HF0 := Lib.hid hF; clear hF
  have HOLD := Lib.hid (fun (i : Nat) (b : Bool) (x : Hx) (ha : AtH Y p.l i b) (hx : x.t.1 = p.l) (hne : x.t.2 ≠ []) => atH_hold ha hs x hx hne)
  have PL := Lib.hid hpl; clear hpl
  clear hr hs h
  obtain ⟨Q, hQ⟩ : ∃ Q, Q = WithEnd w F Y p := ⟨_, rfl⟩
  rw [← hQ]
  have HQ := Lib.hid hQ; clear hQ
  obtain ⟨e1, he1⟩ : ∃ e1, e1 = p.e + 1 := ⟨_, rfl⟩
  rw [← he1] at ADD hpe
  have E1 := Lib.hid he1
  have a1 : (p.e : Int) + 1 = (e1 : Int) := by omega
  have a2 : IntKind.u64.wrap (e1 : Int) = (e1 : Int) := by simp [IntKind.wrap, IntKind.bits, IntKind.signed]; omega
  have a3 : IntKind.u64.wrap ((p.e : Int) + 1) = (e1 : Int) := by rw [a1]; exact a2
  clear he1
  obtain ⟨R0, hR0⟩ : ∃ R0, R0 = ofH (hels Y) p.l := ⟨_, rfl⟩
  rw [← hR0] at OF ADD
  have HR0 := Lib.hid hR0; clear hR0
  obtain ⟨pl, pe⟩ := p
  unfold Ps.val
  unfold FindsH at FIND
  unfold RsEnd at OF
  simp only at hw1 B1 FIND OF ADD HOLD PL E1 a1 a3 HQ HR0 ⊢
  have HW1 := Lib.hid hw1; clear hw1
  have r0 : ∀ z, Frm [] w1 z → z.cell? ⟨g, 0, none⟩ = some (.int .u64 (pl : Nat)) := fun z hz => (hz.whole B1.out (by simp)).cell 0
  have r1 : ∀ z, Frm [] w1 z → z.cell? ⟨g, 1, none⟩ = some (.int .u64 (pe : Nat)) := fun z hz => (hz.whole B1.out (by simp)).cell 1
  have x0 := r0 _ (Frm.refl _ _)
  go_enter Try.func36, Try.ntmps36
  go_wp2_with fail
  rw [← HW1.out, ← hg]
  have HG := Lib.hid hg; clear hg
  (with_reducible refine (FIND.out _ F1.out).mono ?_)
  rintro e w2 ⟨i, b, rfl, hat, hf2⟩
  clear x0
  have AT := Lib.hid hat
  have F2 := Lib.hid hf2
  have iN : i ≤ n := by have := hat.le; have := HN.out; omega
  have iB : b = true → i < n := fun hb => by have := (hat.is.1 hb).1; have := HN.out; omega
  clear hat hf2
  obtain ⟨bh, hbh⟩ : ∃ bh, bh = if b then i + 1 else i := ⟨_, rfl⟩
  have BH := Lib.hid hbh
  have bN : bh ≤ n := by
    rw [hbh]; split
    · have := iB (by assumption); omega
    · exact iN
  have ib : i ≤ bh := by rw [hbh]; split <;> omega
  have SUB : Hid (∀ z, Frm [] w2 z → Frm [] w z) := Lib.hid (fun z hz => F1.out.trans (F2.out.trans hz (U := []) (by simp) (by simp)) (by simp) (by simp))
  have cA := fun w => run_cutH_h w a n cap i (i : Int) rfl (by have := HC.out.2.1; omega)
  have cB := fun w => run_cutH_l w a n cap bh (bh : Int) rfl bN
  obtain ⟨aA, haA⟩ : ∃ aA, aA = cutR a cap 0 := ⟨_, rfl⟩
  obtain ⟨aB, haB⟩ : ∃ aB, aB = cutR a cap bh := ⟨_, rfl⟩
  obtain ⟨nB, hnB⟩ : ∃ nB, nB = n - bh := ⟨_, rfl⟩
  obtain ⟨cB', hcB'⟩ : ∃ cB', cB' = cap - bh := ⟨_, rfl⟩
  rw [← haA] at cA
  rw [← haB, ← hnB, ← hcB'] at cB
  have SA : Hid (∀ z, Frm [] w z → HxSlIn z F ⟨aA, cap, Y.take i⟩) := Lib.hid (fun z hz => by
    have hk := (HH.out.sub hz)
    refine ⟨?_, fun h => ?_, ?_, HC.out.2.2⟩
    · show HxL z F aA (Y.take i)
      rw [haA]
      have := (hk.cut (cap := cap) (by have := HN.out; have := HC.out.2.1; omega) 0).take i
      rwa [List.drop_zero] at this
    · have h' : cutR a cap 0 = none := by rw [← haA]; exact h
      have := cutR_none HC.out.1 h'; show cap = 0; omega
    · show (Y.take i).length ≤ cap
      have := HC.out.2.1
      rw [List.length_take]; omega)
  have SB : Hid (∀ z, Frm [] w z → HxSlIn z F ⟨aB, cB', Y.drop bh⟩) := Lib.hid (fun z hz => by
    have hk := (HH.out.sub hz)
    have hcc := HC.out
    have hnn := HN.out
    have h1 := hcc.2.1
    have h2 := hcc.2.2
    refine ⟨?_, fun h => ?_, ?_, by show cB' ≤ _; omega⟩
    · show HxL z F aB (Y.drop bh)
      rw [haB]
      exact hk.cut (cap := cap) (by omega) bh
    · have h' : cutR a cap bh = none := by rw [← haB]; exact h
      have := cutR_none hcc.1 h'; show cB' = 0; omega
    · show (Y.drop bh).length ≤ cB'
      rw [List.length_drop]; omega)
  have NA : Hid (i = (Y.take i).length) := Lib.hid (by rw [List.length_take]; have := HN.out; omega)
  have NB : Hid (nB = (Y.drop bh).length) := Lib.hid (by rw [List.length_drop]; have := HN.out; omega)
  have LZ : Hid (∀ x : Hx, (Y.take i ++ ([x] ++ Y.drop bh)).length ≤ Y.length + 1) := Lib.hid (fun x => by
    have := HN.out
    simp only [List.length_append, List.length_take, List.length_drop, List.length_cons, List.length_nil]; omega)
  have FIT : Hid ((Y.take i).length + 1 + (Y.drop bh).length ≤ 100000) := Lib.hid (by
    have := HN.out
    simp only [List.length_take, List.length_drop]; omega)
  have HOLD2 : Hid (∀ x : Hx, x.t.1 = pl → x.t.2 ≠ [] → hels (Y.take i ++ ([x] ++ Y.drop bh)) = holdH pl x.t.2 (hels Y)) := Lib.hid (fun x hx hne => by rw [hbh]; exact HOLD.out i b x AT.out hx hne)
  obtain ⟨TK, hTK⟩ : ∃ TK, TK = Y.take i := ⟨_, rfl⟩
  obtain ⟨DR, hDR⟩ : ∃ DR, DR = Y.drop bh := ⟨_, rfl⟩
  rw [← hTK] at SA NA LZ FIT HOLD2
  rw [← hDR] at SB NB LZ FIT HOLD2
  clear haA haB hnB hcB' hTK hDR
  have j1 : (i : Int) ≤ (n : Int) := by omega
  cases b
  · obtain rfl : bh = i := by rw [hbh]; rfl
    clear hbh BH HOLD
    go_upto_region 5 with (fail)
    have r0 : ∀ z, Frm [] w2 z → z.cell? ⟨g, 0, none⟩ = some (.int .u64 (pl : Nat)) := fun z hz => r0 z (F2.out.trans hz (by simp) (by simp))
    have r1 : ∀ z, Frm [] w2 z → z.cell? ⟨g, 1, none⟩ = some (.int .u64 (pe : Nat)) := fun z hz => r1 z (F2.out.trans hz (by simp) (by simp))
    have OFX := Lib.hid (fun z (hz : Frm [] w2 z) => OF.out z (SUB.out z hz))
    refine wp_region_held_drew (S := fun w' => Frm [] w2 w') (by kernel_rfl) (Frm.drew (Frm.refl _ _)) (fun hHeld => ?_)
    refine wpAnyH_take (i := 0) (oi := ⟨some 20, _, _, _, _, _⟩) (v := ?_) rfl (by kernel_rfl) (by kernel_rfl) (by kernel_rfl) (fun _ _ _ h => h) (Or.inl ⟨by rfl, ?_⟩) (by assumption) ?_
    rotate_left 1
    · (intro w hSw; (try dsimp only at hSw); go_simp; all_goals with_reducible rfl)
    try simp only [Act.put, List.setIfInBounds_toArray, List.set_cons_zero, List.set_cons_succ]
    refine wpAnyH_take (i := 1) (oi := ⟨some 21, _, _, _, _, _⟩) (v := ?_) rfl (by kernel_rfl) (by kernel_rfl) (by kernel_rfl) (fun _ _ _ h => h) (Or.inl ⟨by rfl, ?_⟩) (by assumption) ?_
    rotate_left 1
    · (intro w hSw; (try dsimp only at hSw); go_simp; all_goals with_reducible rfl)
    try simp only [Act.put, List.setIfInBounds_toArray, List.set_cons_zero, List.set_cons_succ]
    refine wpAnyH_take (i := 2) (oi := ⟨some 22, _, _, _, _, _⟩) (v := ?_) rfl (by kernel_rfl) (by kernel_rfl) (by kernel_rfl) (fun _ _ _ h => h) (Or.inl ⟨by rfl, ?_⟩) (by assumption) ?_
    rotate_left 1
    · (intro w hSw; (try dsimp only at hSw); go_simp; all_goals with_reducible rfl)
    try simp only [Act.put, List.setIfInBounds_toArray, List.set_cons_zero, List.set_cons_succ]
    refine wpAnyH_take (i := 4) (oi := ⟨some 24, _, _, _, _, _⟩) (v := ?_) rfl (by kernel_rfl) (by kernel_rfl) (by kernel_rfl) (fun _ _ _ h => h) (Or.inl ⟨by rfl, ?_⟩) (by assumption) ?_
    rotate_left 1
    · (intro w hSw; (try dsimp only at hSw); go_simp; all_goals with_reducible rfl)
    try simp only [Act.put, List.setIfInBounds_toArray, List.set_cons_zero, List.set_cons_succ]
    refine wpAnyH_take (i := 5) (oi := ⟨some 25, _, _, _, _, _⟩) (v := ?_) rfl (by kernel_rfl) (by kernel_rfl) (by kernel_rfl) (fun _ _ _ h => h) (Or.inl ⟨by rfl, ?_⟩) (by assumption) ?_
    rotate_left 1
    · (intro w hSw; (try dsimp only at hSw); go_simp; all_goals with_reducible rfl)
    try simp only [Act.put, List.setIfInBounds_toArray, List.set_cons_zero, List.set_cons_succ]
    refine wpAnyH_take (i := 6) (oi := ⟨some 26, _, _, _, _, _⟩) (v := ?_) rfl (by kernel_rfl) (by kernel_rfl) (by kernel_rfl) (fun _ _ _ h => h) (Or.inl ⟨by rfl, ?_⟩) (by assumption) ?_
    rotate_left 1
    · (intro w hSw; (try dsimp only at hSw); go_simp; all_goals with_reducible rfl)
    try simp only [Act.put, List.setIfInBounds_toArray, List.set_cons_zero, List.set_cons_succ]
    refine wpAnyH_take (i := 7) (oi := ⟨some 27, _, _, _, _, _⟩) (v := ?_) rfl (by kernel_rfl) (by kernel_rfl) (by kernel_rfl) (fun _ _ _ h => h) (Or.inl ⟨by rfl, ?_⟩) (by assumption) ?_
    rotate_left 1
    · (intro w hSw; (try dsimp only at hSw); go_simp; all_goals with_reducible rfl)
    try simp only [Act.put, List.setIfInBounds_toArray, List.set_cons_zero, List.set_cons_succ]
    refine wpAnyH_take (i := 8) (oi := ⟨some 28, _, _, _, _, _⟩) (v := ?_) rfl (by kernel_rfl) (by kernel_rfl) (by kernel_rfl) (fun _ _ _ h => h) (Or.inl ⟨by rfl, ?_⟩) (by assumption) ?_
    rotate_left 1
    · (intro w hSw; (try dsimp only at hSw); go_simp; all_goals with_reducible rfl)
    try simp only [Act.put, List.setIfInBounds_toArray, List.set_cons_zero, List.set_cons_succ]
    refine wpAnyH_take (i := 9) (oi := ⟨some 29, _, _, _, _, _⟩) (v := ?_) rfl (by kernel_rfl) (by kernel_rfl) (by kernel_rfl) (fun _ _ _ h => h) (Or.inl ⟨by rfl, ?_⟩) (by assumption) ?_
    rotate_left 1
    · (intro w hSw; (try dsimp only at hSw); go_simp; all_goals with_reducible rfl)
    try simp only [Act.put, List.setIfInBounds_toArray, List.set_cons_zero, List.set_cons_succ]
    refine wpAnyH_ready (rs := [3]) (by kernel_rfl) (by simp) ?_
    refine AllReadyH.cons (o := ⟨some 23, _, _, _, _, _⟩) rfl (fun K hK => ?_) AllReadyH.nil
    go_simp
    go_at_call 46; (with_reducible refine (OFX.out _ hHeld).mono ?_); rintro e v2 ⟨ar, cr, rfl, hrr, hnl, hlc, hcm, _, hv2⟩; have RR := Lib.hid hrr; have CC : Hid (CapOk ar R0.length cr) := Lib.hid ⟨hnl, hlc, hcm⟩; clear hrr hnl hlc hcm; have hHeld2 : Frm [] w2 v2 := hHeld.trans hv2 (by simp) (by simp)
    go_wp2_with fail
    refine hK.out _ _ (by assumption) (fun hHeld => ?_)
    clear hK K
    try simp only [Act.put, List.setIfInBounds_toArray, List.set_cons_zero, List.set_cons_succ]
    refine wpAnyH_ready (rs := [10]) (by kernel_rfl) (by simp) ?_
    refine AllReadyH.cons (o := ⟨some 30, _, _, _, _, _⟩) rfl (fun K hK => ?_) AllReadyH.nil
    go_simp
    go_at_call 69; (with_reducible refine (ADD.out _ _ _ RR.out CC.out).mono ?_); rintro e v3 ⟨ao, ko, co, out, rfl, KO, OO, SO, FO⟩; have hHeld3 : Frm [] w2 v3 := hHeld.trans FO.out (by simp) (by simp)
    go_wp2_with fail
    refine hK.out _ _ (by assumption) (fun hHeld => ?_)
    clear hK K
    try simp only [Act.put, List.setIfInBounds_toArray, List.set_cons_zero, List.set_cons_succ]
    refine wpAnyH_take (i := 11) (oi := ⟨some 8, _, _, _, _, _⟩) (v := ?_) rfl (by kernel_rfl) (by kernel_rfl) (by kernel_rfl) (fun _ _ _ h => h) (Or.inl ⟨by rfl, ?_⟩) (by assumption) ?_
    rotate_left 1
    · (intro w hSw; (try dsimp only at hSw); go_simp; all_goals with_reducible rfl)
    try simp only [Act.put, List.setIfInBounds_toArray, List.set_cons_zero, List.set_cons_succ]
    refine wpAnyH_done (by kernel_rfl) ?_ _
    have FW3 : Hid (Frm [] w v3) := Lib.hid (SUB.out _ hHeld)
    have HF0 := Lib.hid (fun z (hz : Frm [] w z) x (hx : x ∈ F) => Nat.lt_of_lt_of_le (HF0.out x hx) hz.size)
    have NE : Hid (out ≠ []) := Lib.hid (fun h0 => by
      have := (SO.out.2.1 pe).2 (.inr ⟨Nat.le_refl _, by have := E1.out; omega⟩)
      rw [h0] at this
      exact Mem.nil _ this)
    have XOK : Hid (HxOk v3 F ⟨(pl, out), ao, co⟩) := Lib.hid ⟨OO.out.1, fun _ q hq hm => by
      have h1 := OO.out.2.2 q hq
      have h2 := (SUB.out _ hHeld2).size
      have h3 := HF0.out w (Frm.refl _ _) _ hm
      omega, OO.out.2.1.1, PL.out, OO.out.2.1.2⟩
    have CAT := Lib.hid (cqcat_one (W := v3) (x := ⟨(pl, out), ao, co⟩) (nx := ko) (SA.out v3 FW3.out) (SB.out v3 FW3.out) XOK.out (HF0.out v3 FW3.out) NA.out NB.out KO.out FIT.out)
    simp only at CAT
    have HZ := Lib.hid (HOLD2.out ⟨(pl, out), ao, co⟩ rfl NE.out)
    have LZ2 := Lib.hid (LZ.out ⟨(pl, out), ao, co⟩)
    generalize TK ++ ([(⟨(pl, out), ao, co⟩ : Hx)] ++ DR) = Z at CAT HZ LZ2
    have r0 : ∀ z, Frm [] v3 z → z.cell? ⟨g, 0, none⟩ = some (.int .u64 (pl : Nat)) := fun z hz => r0 z (hHeld3.trans hz (by simp) (by simp))
    obtain ⟨zn, hzn⟩ : ∃ zn, zn = Z.length := ⟨_, rfl⟩
    rw [← hzn] at CAT
    have HZN := Lib.hid hzn
    clear r1 hHeld hHeld2 hHeld3 OFX ADD OF FIND hzn
    go_wp2
    refine wp_region_held_drew (S := fun w' => Frm [] v3 w') (by kernel_rfl) (Frm.drew (Frm.refl _ _)) (fun hHeld => ?_)
    refine wpAnyH_take (i := 0) (oi := ⟨some 31, _, _, _, _, _⟩) (v := ?_) rfl (by kernel_rfl) (by kernel_rfl) (by kernel_rfl) (fun _ _ _ h => h) (Or.inl ⟨by rfl, ?_⟩) (by assumption) ?_
    rotate_left 1
    · (intro w hSw; (try dsimp only at hSw); go_simp; all_goals with_reducible rfl)
    try simp only [Act.put, List.setIfInBounds_toArray, List.set_cons_zero, List.set_cons_succ]
    refine wpAnyH_take (i := 1) (oi := ⟨some 32, _, _, _, _, _⟩) (v := ?_) rfl (by kernel_rfl) (by kernel_rfl) (by kernel_rfl) (fun _ _ _ h => h) (Or.inl ⟨by rfl, ?_⟩) (by assumption) ?_
    rotate_left 1
    · (intro w hSw; (try dsimp only at hSw); go_simp; all_goals with_reducible rfl)
    try simp only [Act.put, List.setIfInBounds_toArray, List.set_cons_zero, List.set_cons_succ]
    refine wpAnyH_take (i := 2) (oi := ⟨some 33, _, _, _, _, _⟩) (v := ?_) rfl (by kernel_rfl) (by kernel_rfl) (by kernel_rfl) (fun _ _ _ h => h) (Or.inl ⟨by rfl, ?_⟩) (by assumption) ?_
    rotate_left 1
    · (intro w hSw; (try dsimp only at hSw); go_simp; all_goals with_reducible rfl)
    try simp only [Act.put, List.setIfInBounds_toArray, List.set_cons_zero, List.set_cons_succ]
    refine wpAnyH_take (i := 3) (oi := ⟨some 34, _, _, _, _, _⟩) (v := ?_) rfl (by kernel_rfl) (by kernel_rfl) (by kernel_rfl) (fun _ _ _ h => h) (Or.inl ⟨by rfl, ?_⟩) (by assumption) ?_
    rotate_left 1
    · (intro w hSw; (try dsimp only at hSw); go_simp; all_goals with_reducible rfl)
    try simp only [Act.put, List.setIfInBounds_toArray, List.set_cons_zero, List.set_cons_succ]
    refine wpAnyH_take (i := 4) (oi := ⟨some 35, _, _, _, _, _⟩) (v := ?_) rfl (by kernel_rfl) (by kernel_rfl) (by kernel_rfl) (fun _ _ _ h => h) (Or.inl ⟨by rfl, ?_⟩) (by assumption) ?_
    rotate_left 1
    · (intro w hSw; (try dsimp only at hSw); go_simp; all_goals with_reducible rfl)
    try simp only [Act.put, List.setIfInBounds_toArray, List.set_cons_zero, List.set_cons_succ]
    refine wpAnyH_take (i := 5) (oi := ⟨some 36, _, _, _, _, _⟩) (v := ?_) rfl (by kernel_rfl) (by kernel_rfl) (by kernel_rfl) (fun _ _ _ h => h) (Or.inl ⟨by rfl, ?_⟩) (by assumption) ?_
    rotate_left 1
    · (intro w hSw; (try dsimp only at hSw); go_simp; all_goals with_reducible rfl)
    try simp only [Act.put, List.setIfInBounds_toArray, List.set_cons_zero, List.set_cons_succ]
    refine wpAnyH_take (i := 6) (oi := ⟨some 37, _, _, _, _, _⟩) (v := ?_) rfl (by kernel_rfl) (by kernel_rfl) (by kernel_rfl) (fun _ _ _ h => h) (Or.inl ⟨by rfl, ?_⟩) (by assumption) ?_
    rotate_left 1
    · (intro w hSw; (try dsimp only at hSw); go_simp; all_goals with_reducible rfl)
    try simp only [Act.put, List.setIfInBounds_toArray, List.set_cons_zero, List.set_cons_succ]
    refine wpAnyH_take (i := 8) (oi := ⟨some 39, _, _, _, _, _⟩) (v := ?_) rfl (by kernel_rfl) (by kernel_rfl) (by kernel_rfl) (fun _ _ _ h => h) (Or.inl ⟨by rfl, ?_⟩) (by assumption) ?_
    rotate_left 1
    · (intro w hSw; (try dsimp only at hSw); go_simp; all_goals with_reducible rfl)
    try simp only [Act.put, List.setIfInBounds_toArray, List.set_cons_zero, List.set_cons_succ]
    refine wpAnyH_take (i := 9) (oi := ⟨some 40, _, _, _, _, _⟩) (v := ?_) rfl (by kernel_rfl) (by kernel_rfl) (by kernel_rfl) (fun _ _ _ h => h) (Or.inl ⟨by rfl, ?_⟩) (by assumption) ?_
    rotate_left 1
    · (intro w hSw; (try dsimp only at hSw); go_simp; all_goals with_reducible rfl)
    try simp only [Act.put, List.setIfInBounds_toArray, List.set_cons_zero, List.set_cons_succ]
    refine wpAnyH_take (i := 10) (oi := ⟨some 41, _, _, _, _, _⟩) (v := ?_) rfl (by kernel_rfl) (by kernel_rfl) (by kernel_rfl) (fun _ _ _ h => h) (Or.inl ⟨by rfl, ?_⟩) (by assumption) ?_
    rotate_left 1
    · (intro w hSw; (try dsimp only at hSw); go_simp; all_goals with_reducible rfl)
    try simp only [Act.put, List.setIfInBounds_toArray, List.set_cons_zero, List.set_cons_succ]
    refine wpAnyH_ready (rs := [7]) (by kernel_rfl) (by simp) ?_
    refine AllReadyH.cons (o := ⟨some 38, _, _, _, _, _⟩) rfl (fun K hK => ?_) AllReadyH.nil
    go_simp
    refine hK.out _ _ (by repeat (first | assumption | apply Frm.alloc | apply Frm.drew | exact Frm.refl _ _)) (fun hHeld => ?_)
    clear hK K
    try simp only [Act.put, List.setIfInBounds_toArray, List.set_cons_zero, List.set_cons_succ]
    refine wpAnyH_ready (rs := [11]) (by kernel_rfl) (by simp) ?_
    refine AllReadyH.cons (o := ⟨some 42, _, _, _, _, _⟩) rfl (fun K hK => ?_) AllReadyH.nil
    go_simp
    refine hK.out _ _ (by repeat (first | assumption | apply Frm.alloc | apply Frm.drew | exact Frm.refl _ _)) (fun hHeld => ?_)
    clear hK K
    try simp only [Act.put, List.setIfInBounds_toArray, List.set_cons_zero, List.set_cons_succ]
    refine wpAnyH_ready (rs := [12]) (by kernel_rfl) (by simp) ?_
    refine AllReadyH.cons (o := ⟨some 43, _, _, _, _, _⟩) rfl (fun K hK => ?_) AllReadyH.nil
    go_simp
    go_at_call 70; (with_reducible refine CAT.out.mono ?_); rintro e v4 ⟨a4, c4, rfl, ho4, hf4⟩; have hHeld4 : Frm [] v3 v4 := hf4
    go_wp2_with fail
    refine hK.out _ _ (by assumption) (fun hHeld => ?_)
    clear hK K
    try simp only [Act.put, List.setIfInBounds_toArray, List.set_cons_zero, List.set_cons_succ]
    refine wpAnyH_take (i := 13) (oi := ⟨some 4, _, _, _, _, _⟩) (v := ?_) rfl (by kernel_rfl) (by kernel_rfl) (by kernel_rfl) (fun _ _ _ h => h) (Or.inl ⟨by rfl, ?_⟩) (by assumption) ?_
    rotate_left 1
    · (intro w hSw; (try dsimp only at hSw); go_simp; all_goals with_reducible rfl)
    try simp only [Act.put, List.setIfInBounds_toArray, List.set_cons_zero, List.set_cons_succ]
    refine wpAnyH_done (by kernel_rfl) ?_ _
    have FIN : Hid (Q (.returned (.slice a4 zn c4)) v4) := Lib.hid (by
      rw [HQ.out]
      refine ⟨out, Z, a4, zn, c4, rfl, HZN, ⟨HZ.out, LZ2.out⟩, ⟨SO.out.1, fun x => ?_, ?_⟩, ⟨ho4.hl, ho4.caps.2.2, ho4.caps.1, by have := ho4.caps.2.1; unfold maxLen at this; omega⟩, FW3.out.trans hf4 (by simp) (by simp)⟩
      · show Mem out x ↔ Mem (ofH (hels Y) pl) x ∨ x = pe
        rw [SO.out.2.1 x, HR0.out]
        have := E1.out
        exact ⟨fun h => h.imp id (fun h => by omega), fun h => h.imp id (fun h => by omega)⟩
      · have := SO.out.2.2
        rw [HR0.out] at this
        exact this)
    clear r0 cA cB
    go_wp2
    exact FIN.out
  · have b1 : (i : Int) + 1 = (bh : Int) := by rw [hbh]; simp
    have b2 : IntKind.i64.wrap (bh : Int) = (bh : Int) := by simp [IntKind.wrap, IntKind.bits, IntKind.signed]; omega
    have b3 : IntKind.i64.wrap ((i : Int) + 1) = (bh : Int) := by rw [b1]; exact b2
    clear hbh BH HOLD
    go_upto_region 5 with (fail)
    have r0 : ∀ z, Frm [] w2 z → z.cell? ⟨g, 0, none⟩ = some (.int .u64 (pl : Nat)) := fun z hz => r0 z (F2.out.trans hz (by simp) (by simp))
    have r1 : ∀ z, Frm [] w2 z → z.cell? ⟨g, 1, none⟩ = some (.int .u64 (pe : Nat)) := fun z hz => r1 z (F2.out.trans hz (by simp) (by simp))
    have OFX := Lib.hid (fun z (hz : Frm [] w2 z) => OF.out z (SUB.out z hz))
    refine wp_region_held_drew (S := fun w' => Frm [] w2 w') (by kernel_rfl) (Frm.drew (Frm.refl _ _)) (fun hHeld => ?_)
    refine wpAnyH_take (i := 0) (oi := ⟨some 20, _, _, _, _, _⟩) (v := ?_) rfl (by kernel_rfl) (by kernel_rfl) (by kernel_rfl) (fun _ _ _ h => h) (Or.inl ⟨by rfl, ?_⟩) (by assumption) ?_
    rotate_left 1
    · (intro w hSw; (try dsimp only at hSw); go_simp; all_goals with_reducible rfl)
    try simp only [Act.put, List.setIfInBounds_toArray, List.set_cons_zero, List.set_cons_succ]
    refine wpAnyH_take (i := 1) (oi := ⟨some 21, _, _, _, _, _⟩) (v := ?_) rfl (by kernel_rfl) (by kernel_rfl) (by kernel_rfl) (fun _ _ _ h => h) (Or.inl ⟨by rfl, ?_⟩) (by assumption) ?_
    rotate_left 1
    · (intro w hSw; (try dsimp only at hSw); go_simp; all_goals with_reducible rfl)
    try simp only [Act.put, List.setIfInBounds_toArray, List.set_cons_zero, List.set_cons_succ]
    refine wpAnyH_take (i := 2) (oi := ⟨some 22, _, _, _, _, _⟩) (v := ?_) rfl (by kernel_rfl) (by kernel_rfl) (by kernel_rfl) (fun _ _ _ h => h) (Or.inl ⟨by rfl, ?_⟩) (by assumption) ?_
    rotate_left 1
    · (intro w hSw; (try dsimp only at hSw); go_simp; all_goals with_reducible rfl)
    try simp only [Act.put, List.setIfInBounds_toArray, List.set_cons_zero, List.set_cons_succ]
    refine wpAnyH_take (i := 4) (oi := ⟨some 24, _, _, _, _, _⟩) (v := ?_) rfl (by kernel_rfl) (by kernel_rfl) (by kernel_rfl) (fun _ _ _ h => h) (Or.inl ⟨by rfl, ?_⟩) (by assumption) ?_
    rotate_left 1
    · (intro w hSw; (try dsimp only at hSw); go_simp; all_goals with_reducible rfl)
    try simp only [Act.put, List.setIfInBounds_toArray, List.set_cons_zero, List.set_cons_succ]
    refine wpAnyH_take (i := 5) (oi := ⟨some 25, _, _, _, _, _⟩) (v := ?_) rfl (by kernel_rfl) (by kernel_rfl) (by kernel_rfl) (fun _ _ _ h => h) (Or.inl ⟨by rfl, ?_⟩) (by assumption) ?_
    rotate_left 1
    · (intro w hSw; (try dsimp only at hSw); go_simp; all_goals with_reducible rfl)
    try simp only [Act.put, List.setIfInBounds_toArray, List.set_cons_zero, List.set_cons_succ]
    refine wpAnyH_take (i := 6) (oi := ⟨some 26, _, _, _, _, _⟩) (v := ?_) rfl (by kernel_rfl) (by kernel_rfl) (by kernel_rfl) (fun _ _ _ h => h) (Or.inl ⟨by rfl, ?_⟩) (by assumption) ?_
    rotate_left 1
    · (intro w hSw; (try dsimp only at hSw); go_simp; all_goals with_reducible rfl)
    try simp only [Act.put, List.setIfInBounds_toArray, List.set_cons_zero, List.set_cons_succ]
    refine wpAnyH_take (i := 7) (oi := ⟨some 27, _, _, _, _, _⟩) (v := ?_) rfl (by kernel_rfl) (by kernel_rfl) (by kernel_rfl) (fun _ _ _ h => h) (Or.inl ⟨by rfl, ?_⟩) (by assumption) ?_
    rotate_left 1
    · (intro w hSw; (try dsimp only at hSw); go_simp; all_goals with_reducible rfl)
    try simp only [Act.put, List.setIfInBounds_toArray, List.set_cons_zero, List.set_cons_succ]
    refine wpAnyH_take (i := 8) (oi := ⟨some 28, _, _, _, _, _⟩) (v := ?_) rfl (by kernel_rfl) (by kernel_rfl) (by kernel_rfl) (fun _ _ _ h => h) (Or.inl ⟨by rfl, ?_⟩) (by assumption) ?_
    rotate_left 1
    · (intro w hSw; (try dsimp only at hSw); go_simp; all_goals with_reducible rfl)
    try simp only [Act.put, List.setIfInBounds_toArray, List.set_cons_zero, List.set_cons_succ]
    refine wpAnyH_take (i := 9) (oi := ⟨some 29, _, _, _, _, _⟩) (v := ?_) rfl (by kernel_rfl) (by kernel_rfl) (by kernel_rfl) (fun _ _ _ h => h) (Or.inl ⟨by rfl, ?_⟩) (by assumption) ?_
    rotate_left 1
    · (intro w hSw; (try dsimp only at hSw); go_simp; all_goals with_reducible rfl)
    try simp only [Act.put, List.setIfInBounds_toArray, List.set_cons_zero, List.set_cons_succ]
    refine wpAnyH_ready (rs := [3]) (by kernel_rfl) (by simp) ?_
    refine AllReadyH.cons (o := ⟨some 23, _, _, _, _, _⟩) rfl (fun K hK => ?_) AllReadyH.nil
    go_simp
    go_at_call 46; (with_reducible refine (OFX.out _ hHeld).mono ?_); rintro e v2 ⟨ar, cr, rfl, hrr, hnl, hlc, hcm, _, hv2⟩; have RR := Lib.hid hrr; have CC : Hid (CapOk ar R0.length cr) := Lib.hid ⟨hnl, hlc, hcm⟩; clear hrr hnl hlc hcm; have hHeld2 : Frm [] w2 v2 := hHeld.trans hv2 (by simp) (by simp)
    go_wp2_with fail
    refine hK.out _ _ (by assumption) (fun hHeld => ?_)
    clear hK K
    try simp only [Act.put, List.setIfInBounds_toArray, List.set_cons_zero, List.set_cons_succ]
    refine wpAnyH_ready (rs := [10]) (by kernel_rfl) (by simp) ?_
    refine AllReadyH.cons (o := ⟨some 30, _, _, _, _, _⟩) rfl (fun K hK => ?_) AllReadyH.nil
    go_simp
    go_at_call 69; (with_reducible refine (ADD.out _ _ _ RR.out CC.out).mono ?_); rintro e v3 ⟨ao, ko, co, out, rfl, KO, OO, SO, FO⟩; have hHeld3 : Frm [] w2 v3 := hHeld.trans FO.out (by simp) (by simp)
    go_wp2_with fail
    refine hK.out _ _ (by assumption) (fun hHeld => ?_)
    clear hK K
    try simp only [Act.put, List.setIfInBounds_toArray, List.set_cons_zero, List.set_cons_succ]
    refine wpAnyH_take (i := 11) (oi := ⟨some 8, _, _, _, _, _⟩) (v := ?_) rfl (by kernel_rfl) (by kernel_rfl) (by kernel_rfl) (fun _ _ _ h => h) (Or.inl ⟨by rfl, ?_⟩) (by assumption) ?_
    rotate_left 1
    · (intro w hSw; (try dsimp only at hSw); go_simp; all_goals with_reducible rfl)
    try simp only [Act.put, List.setIfInBounds_toArray, List.set_cons_zero, List.set_cons_succ]
    refine wpAnyH_done (by kernel_rfl) ?_ _
    have FW3 : Hid (Frm [] w v3) := Lib.hid (SUB.out _ hHeld)
    have HF0 := Lib.hid (fun z (hz : Frm [] w z) x (hx : x ∈ F) => Nat.lt_of_lt_of_le (HF0.out x hx) hz.size)
    have NE : Hid (out ≠ []) := Lib.hid (fun h0 => by
      have := (SO.out.2.1 pe).2 (.inr ⟨Nat.le_refl _, by have := E1.out; omega⟩)
      rw [h0] at this
      exact Mem.nil _ this)
    have XOK : Hid (HxOk v3 F ⟨(pl, out), ao, co⟩) := Lib.hid ⟨OO.out.1, fun _ q hq hm => by
      have h1 := OO.out.2.2 q hq
      have h2 := (SUB.out _ hHeld2).size
      have h3 := HF0.out w (Frm.refl _ _) _ hm
      omega, OO.out.2.1.1, PL.out, OO.out.2.1.2⟩
    have CAT := Lib.hid (cqcat_one (W := v3) (x := ⟨(pl, out), ao, co⟩) (nx := ko) (SA.out v3 FW3.out) (SB.out v3 FW3.out) XOK.out (HF0.out v3 FW3.out) NA.out NB.out KO.out FIT.out)
    simp only at CAT
    have HZ := Lib.hid (HOLD2.out ⟨(pl, out), ao, co⟩ rfl NE.out)
    have LZ2 := Lib.hid (LZ.out ⟨(pl, out), ao, co⟩)
    generalize TK ++ ([(⟨(pl, out), ao, co⟩ : Hx)] ++ DR) = Z at CAT HZ LZ2
    have r0 : ∀ z, Frm [] v3 z → z.cell? ⟨g, 0, none⟩ = some (.int .u64 (pl : Nat)) := fun z hz => r0 z (hHeld3.trans hz (by simp) (by simp))
    obtain ⟨zn, hzn⟩ : ∃ zn, zn = Z.length := ⟨_, rfl⟩
    rw [← hzn] at CAT
    have HZN := Lib.hid hzn
    clear r1 hHeld hHeld2 hHeld3 OFX ADD OF FIND hzn
    go_wp2
    refine wp_region_held_drew (S := fun w' => Frm [] v3 w') (by kernel_rfl) (Frm.drew (Frm.refl _ _)) (fun hHeld => ?_)
    refine wpAnyH_take (i := 0) (oi := ⟨some 31, _, _, _, _, _⟩) (v := ?_) rfl (by kernel_rfl) (by kernel_rfl) (by kernel_rfl) (fun _ _ _ h => h) (Or.inl ⟨by rfl, ?_⟩) (by assumption) ?_
    rotate_left 1
    · (intro w hSw; (try dsimp only at hSw); go_simp; all_goals with_reducible rfl)
    try simp only [Act.put, List.setIfInBounds_toArray, List.set_cons_zero, List.set_cons_succ]
    refine wpAnyH_take (i := 1) (oi := ⟨some 32, _, _, _, _, _⟩) (v := ?_) rfl (by kernel_rfl) (by kernel_rfl) (by kernel_rfl) (fun _ _ _ h => h) (Or.inl ⟨by rfl, ?_⟩) (by assumption) ?_
    rotate_left 1
    · (intro w hSw; (try dsimp only at hSw); go_simp; all_goals with_reducible rfl)
    try simp only [Act.put, List.setIfInBounds_toArray, List.set_cons_zero, List.set_cons_succ]
    refine wpAnyH_take (i := 2) (oi := ⟨some 33, _, _, _, _, _⟩) (v := ?_) rfl (by kernel_rfl) (by kernel_rfl) (by kernel_rfl) (fun _ _ _ h => h) (Or.inl ⟨by rfl, ?_⟩) (by assumption) ?_
    rotate_left 1
    · (intro w hSw; (try dsimp only at hSw); go_simp; all_goals with_reducible rfl)
    try simp only [Act.put, List.setIfInBounds_toArray, List.set_cons_zero, List.set_cons_succ]
    refine wpAnyH_take (i := 3) (oi := ⟨some 34, _, _, _, _, _⟩) (v := ?_) rfl (by kernel_rfl) (by kernel_rfl) (by kernel_rfl) (fun _ _ _ h => h) (Or.inl ⟨by rfl, ?_⟩) (by assumption) ?_
    rotate_left 1
    · (intro w hSw; (try dsimp only at hSw); go_simp; all_goals with_reducible rfl)
    try simp only [Act.put, List.setIfInBounds_toArray, List.set_cons_zero, List.set_cons_succ]
    refine wpAnyH_take (i := 4) (oi := ⟨some 35, _, _, _, _, _⟩) (v := ?_) rfl (by kernel_rfl) (by kernel_rfl) (by kernel_rfl) (fun _ _ _ h => h) (Or.inl ⟨by rfl, ?_⟩) (by assumption) ?_
    rotate_left 1
    · (intro w hSw; (try dsimp only at hSw); go_simp; all_goals with_reducible rfl)
    try simp only [Act.put, List.setIfInBounds_toArray, List.set_cons_zero, List.set_cons_succ]
    refine wpAnyH_take (i := 5) (oi := ⟨some 36, _, _, _, _, _⟩) (v := ?_) rfl (by kernel_rfl) (by kernel_rfl) (by kernel_rfl) (fun _ _ _ h => h) (Or.inl ⟨by rfl, ?_⟩) (by assumption) ?_
    rotate_left 1
    · (intro w hSw; (try dsimp only at hSw); go_simp; all_goals with_reducible rfl)
    try simp only [Act.put, List.setIfInBounds_toArray, List.set_cons_zero, List.set_cons_succ]
    refine wpAnyH_take (i := 6) (oi := ⟨some 37, _, _, _, _, _⟩) (v := ?_) rfl (by kernel_rfl) (by kernel_rfl) (by kernel_rfl) (fun _ _ _ h => h) (Or.inl ⟨by rfl, ?_⟩) (by assumption) ?_
    rotate_left 1
    · (intro w hSw; (try dsimp only at hSw); go_simp; all_goals with_reducible rfl)
    try simp only [Act.put, List.setIfInBounds_toArray, List.set_cons_zero, List.set_cons_succ]
    refine wpAnyH_take (i := 8) (oi := ⟨some 39, _, _, _, _, _⟩) (v := ?_) rfl (by kernel_rfl) (by kernel_rfl) (by kernel_rfl) (fun _ _ _ h => h) (Or.inl ⟨by rfl, ?_⟩) (by assumption) ?_
    rotate_left 1
    · (intro w hSw; (try dsimp only at hSw); go_simp; all_goals with_reducible rfl)
    try simp only [Act.put, List.setIfInBounds_toArray, List.set_cons_zero, List.set_cons_succ]
    refine wpAnyH_take (i := 9) (oi := ⟨some 40, _, _, _, _, _⟩) (v := ?_) rfl (by kernel_rfl) (by kernel_rfl) (by kernel_rfl) (fun _ _ _ h => h) (Or.inl ⟨by rfl, ?_⟩) (by assumption) ?_
    rotate_left 1
    · (intro w hSw; (try dsimp only at hSw); go_simp; all_goals with_reducible rfl)
    try simp only [Act.put, List.setIfInBounds_toArray, List.set_cons_zero, List.set_cons_succ]
    refine wpAnyH_take (i := 10) (oi := ⟨some 41, _, _, _, _, _⟩) (v := ?_) rfl (by kernel_rfl) (by kernel_rfl) (by kernel_rfl) (fun _ _ _ h => h) (Or.inl ⟨by rfl, ?_⟩) (by assumption) ?_
    rotate_left 1
    · (intro w hSw; (try dsimp only at hSw); go_simp; all_goals with_reducible rfl)
    try simp only [Act.put, List.setIfInBounds_toArray, List.set_cons_zero, List.set_cons_succ]
    refine wpAnyH_ready (rs := [7]) (by kernel_rfl) (by simp) ?_
    refine AllReadyH.cons (o := ⟨some 38, _, _, _, _, _⟩) rfl (fun K hK => ?_) AllReadyH.nil
    go_simp
    refine hK.out _ _ (by repeat (first | assumption | apply Frm.alloc | apply Frm.drew | exact Frm.refl _ _)) (fun hHeld => ?_)
    clear hK K
    try simp only [Act.put, List.setIfInBounds_toArray, List.set_cons_zero, List.set_cons_succ]
    refine wpAnyH_ready (rs := [11]) (by kernel_rfl) (by simp) ?_
    refine AllReadyH.cons (o := ⟨some 42, _, _, _, _, _⟩) rfl (fun K hK => ?_) AllReadyH.nil
    go_simp
    refine hK.out _ _ (by repeat (first | assumption | apply Frm.alloc | apply Frm.drew | exact Frm.refl _ _)) (fun hHeld => ?_)
    clear hK K
    try simp only [Act.put, List.setIfInBounds_toArray, List.set_cons_zero, List.set_cons_succ]
    refine wpAnyH_ready (rs := [12]) (by kernel_rfl) (by simp) ?_
    refine AllReadyH.cons (o := ⟨some 43, _, _, _, _, _⟩) rfl (fun K hK => ?_) AllReadyH.nil
    go_simp
    go_at_call 70; (with_reducible refine CAT.out.mono ?_); rintro e v4 ⟨a4, c4, rfl, ho4, hf4⟩; have hHeld4 : Frm [] v3 v4 := hf4
    go_wp2_with fail
    refine hK.out _ _ (by assumption) (fun hHeld => ?_)
    clear hK K
    try simp only [Act.put, List.setIfInBounds_toArray, List.set_cons_zero, List.set_cons_succ]
    refine wpAnyH_take (i := 13) (oi := ⟨some 4, _, _, _, _, _⟩) (v := ?_) rfl (by kernel_rfl) (by kernel_rfl) (by kernel_rfl) (fun _ _ _ h => h) (Or.inl ⟨by rfl, ?_⟩) (by assumption) ?_
    rotate_left 1
    · (intro w hSw; (try dsimp only at hSw); go_simp; all_goals with_reducible rfl)
    try simp only [Act.put, List.setIfInBounds_toArray, List.set_cons_zero, List.set_cons_succ]
    refine wpAnyH_done (by kernel_rfl) ?_ _
    have FIN : Hid (Q (.returned (.slice a4 zn c4)) v4) := Lib.hid (by
      rw [HQ.out]
      refine ⟨out, Z, a4, zn, c4, rfl, HZN, ⟨HZ.out, LZ2.out⟩, ⟨SO.out.1, fun x => ?_, ?_⟩, ⟨ho4.hl, ho4.caps.2.2, ho4.caps.1, by have := ho4.caps.2.1; unfold maxLen at this; omega⟩, FW3.out.trans hf4 (by simp) (by simp)⟩
      · show Mem out x ↔ Mem (ofH (hels Y) pl) x ∨ x = pe
        rw [SO.out.2.1 x, HR0.out]
        have := E1.out
        exact ⟨fun h => h.imp id (fun h => by omega), fun h => h.imp id (fun h => by omega)⟩
      · have := SO.out.2.2
        rw [HR0.out] at this
        exact this)
    clear r0 cA cB
    go_wp2
    exact FIN.out
end Go.Proofs.Ytghadpihmhaepaa
/- Contracts of the program's leftOf, left. -/
namespace Go.Proofs.Ytghadpihmhaepaa
open Go.RowKit
set_option maxRecDepth 100000

/-- What of a ledger's is held from a place on. -/
def leftT (m : Ps) (h : Hel) : List Rg := if h.1 < m.l then [] else if h.1 = m.l then minR h.2 m.e else h.2
def leftH (m : Ps) (H : List Hel) : List Hel := (H.map (fun h => (h.1, leftT m h))).filter (fun h => decide (h.2 ≠ []))
theorem leftH_take (m : Ps) {H : List Hel} {k : Nat} (hk : k < H.length) : leftH m (H.take (k + 1)) = leftH m (H.take k) ++ (if leftT m (H.getD k default) = [] then [] else [((H.getD k default).1, leftT m (H.getD k default))]) := by
  unfold leftH
  have e : H.getD k default = H[k] := by simp [hk]
  rw [List.take_succ_eq_append_getElem hk, List.map_append, List.filter_append, e]
  congr 1
  by_cases h : leftT m H[k] = []
  · simp [h]
  · simp [h]
theorem minR_len (R : List Rg) (e : Nat) : (minR R e).length ≤ R.length := by
  unfold minR
  rw [List.length_map]
  exact List.length_filter_le _ _
theorem leftT_len (m : Ps) (h : Hel) : (leftT m h).length ≤ h.2.length := by
  unfold leftT
  split
  · simp
  · split
    · exact minR_len _ _
    · exact Nat.le_refl _
/-- Ranges of the call's own. -/
def OwnEnd (w : World) (out : List Rg) (e : Ending) (w' : World) : Prop := ∃ (a : Option Addr) (c : Nat), e = .returned (.slice a out.length c) ∧ Hid (Rr w' a out ∧ CapOk a out.length c ∧ (∀ q, a = some q → w.heap.size ≤ q.block)) ∧ Hid (Frm [] w w')
theorem OwnEnd.from' {w w1 w' : World} {out : List Rg} {e : Ending} (hf : Frm [] w w1) (h : OwnEnd w1 out e w') : OwnEnd w out e w' := by
  obtain ⟨a, c, h1, h2, h3⟩ := h
  exact ⟨a, c, h1, ⟨h2.out.1, h2.out.2.1, fun q hq => Nat.le_trans hf.size (h2.out.2.2 q hq)⟩, hf.trans h3.out (by simp) (by simp)⟩
set_option maxHeartbeats 2000000 in
theorem cqleftof_any (led : Nat) (ra : Option Addr) (rn rc : Nat) (rs : List Rg) (m : Ps) (w : World) (h : Rr w ra rs) (hr : Rt rs) (hn : rn = rs.length) (hsz : rn ≤ 1000) (hc : CapOk ra rn rc) (hme : m.e < 18446744073709551616) :
    Calls Try.prog 91 #[.agg #[.int .u64 (led : Nat), .slice ra rn rc], m.val] w (OwnEnd w (leftT m (led, rs))) := by
  obtain ⟨ml, me⟩ := m
  unfold Ps.val leftT
  simp only at hme ⊢
  obtain ⟨w1, hw1⟩ : ∃ w1, w1 = (w.alloc (.cells #[.int .u64 (led : Nat), .slice ra rn rc] 55)).alloc (.cells #[.int .u64 (ml : Nat), .int .u64 (me : Nat)] 25) := ⟨_, rfl⟩
  obtain ⟨g, hg⟩ : ∃ g, g = w.heap.size := ⟨_, rfl⟩
  have f1 : Frm [] w w1 := by rw [hw1]; exact ((Frm.refl _ _).alloc _).alloc _
  have F1 := Lib.hid f1
  have hh := h.keep0 f1
  clear f1
  by_cases h1 : led < ml
  · rw [if_pos h1]
    have d1 : decide (led < ml) = true := decide_eq_true h1
    have d2 : decide ((led : Int) < (ml : Int)) = true := decide_eq_true (by omega)
    have FIN : Hid (OwnEnd w [] (.returned (.slice none 0 0)) w1) := Lib.hid ⟨none, 0, rfl, ⟨Rr.nil _ _, ⟨fun _ => rfl, Nat.le_refl _, Nat.zero_le _⟩, fun q hq => by cases hq⟩, F1⟩
    clear h1 hh h hr hn
    go_enter Try.func91, Try.ntmps91
    go_wp2
    rw [← hw1]
    go_ret
    exact FIN.out
  · rw [if_neg h1]
    have d1 : decide (led < ml) = false := decide_eq_false h1
    have d2 : decide ((led : Int) < (ml : Int)) = false := decide_eq_false (by omega)
    by_cases h2 : led = ml
    · rw [if_pos h2]
      have d3 : ((led : Int) == (ml : Int)) = true := by rw [beq_iff_eq]; omega
      have REM : Hid (Calls Try.prog 77 #[.slice ra rn rc, .agg #[.int .u64 0, .int .u64 (me : Nat)]] w1 (OwnEnd w1 (minR rs me))) := Lib.hid (by
        have key : ∀ e w', Got w1 (fun x => Mem rs x ∧ ¬ (0 ≤ x ∧ x < me)) (rn + 1) e w' → OwnEnd w1 (minR rs me) e w' := fun e w' hg => by
          obtain ⟨a, k, c, out, rfl, hk, ho, hs, hf⟩ := hg.x
          have e1 : out = minR rs me := rt_uniq hs.out.1 (rt_minR hr me) (fun x => by rw [hs.out.2.1, mem_minR]; exact ⟨fun h => ⟨h.1, by have := h.2; omega⟩, fun h => ⟨h.1, by omega⟩⟩)
          rw [← e1]
          exact ⟨a, c, by rw [hk.out], ho, hf⟩
        rcases Nat.eq_zero_or_pos me with h0 | h0
        · exact (remove_empty (r1 := 0) (r2 := me) hh hr hn hc.1 hsz (by omega)).mono key
        · exact (remove_some (r1 := 0) (r2 := me) hh hr hn hc.2.1 hc.2.2 hc.1 hsz h0 hme).mono key)
      clear h1 h2 hh h hr hn
      go_enter Try.func91, Try.ntmps91
      go_wp2_with fail
      rw [← hw1]
      (with_reducible refine REM.out.mono ?_)
      rintro e w2 ⟨a2, c2, rfl, ho, hf⟩
      have FIN : Hid (OwnEnd w (minR rs me) (.returned (.slice a2 (minR rs me).length c2)) w2) := Lib.hid (OwnEnd.from' F1.out ⟨a2, c2, rfl, ho, hf⟩)
      go_wp2
      go_ret
      exact FIN.out
    · rw [if_neg h2]
      have d3 : ((led : Int) == (ml : Int)) = false := by rw [beq_eq_false_iff_ne]; omega
      have CLN : Hid (Calls Try.prog 94 #[.slice ra rn rc] w1 (OwnEnd w1 rs)) := Lib.hid ((cloneR_any hh hn hc.1 (by omega)).mono fun e w' hg => by
        obtain ⟨a, c, rfl, ho, hf⟩ := hg
        have hq := ho.rr hh.1
        exact ⟨a, c, rfl, ⟨hq.1, ⟨hq.2.1, hq.2.2.1, by have := hq.2.2.2; unfold maxLen at this; omega⟩, fun q hq => (ho.lt q hq).1⟩, hf⟩)
      clear h1 h2 hh h hr hn
      go_enter Try.func91, Try.ntmps91
      go_wp2_with fail
      rw [← hw1]
      (with_reducible refine CLN.out.mono ?_)
      rintro e w2 ⟨a2, c2, rfl, ho, hf⟩
      have FIN : Hid (OwnEnd w rs (.returned (.slice a2 rs.length c2)) w2) := Lib.hid (OwnEnd.from' F1.out ⟨a2, c2, rfl, ho, hf⟩)
      go_wp2
      go_ret
      exact FIN.out
/-- What left answers. -/
def LeftEnd (w : World) (F : List Nat) (H : List Hel) (m : Ps) (e : Ending) (w' : World) : Prop := ∃ (Z : List Hx) (a : Option Addr) (zn c : Nat), e = .returned (.slice a zn c) ∧ Hid (zn = Z.length) ∧ Hid (hels Z = leftH m H) ∧ Hid (HxL w' F a Z ∧ CapOk a Z.length c) ∧ Hid (Frm [] w w')
set_option maxHeartbeats 8000000 in
theorem cqleft_any (a : Option Addr) (n cap : Nat) (F : List Nat) (Y : List Hx) (m : Ps) (w : World) (h : HxL w F a Y) (hn : n = Y.length) (hsz : n ≤ 100000) (hr : RgsOk Y) (hF : ∀ x ∈ F, x < w.heap.size) (hme : m.e < 18446744073709551616) :
    Calls Try.prog 67 #[.slice a n cap, m.val] w (LeftEnd w F (hels Y) m) := by
  obtain ⟨w1, hw1⟩ : ∃ w1, w1 = w.alloc (.cells #[.int .u64 (m.l : Nat), .int .u64 (m.e : Nat)] 25) := ⟨_, rfl⟩
  obtain ⟨g, hg⟩ : ∃ g, g = w.heap.size := ⟨_, rfl⟩
  have F1 : Hid (Frm [] w w1) := Lib.hid (by rw [hw1]; exact (Frm.refl _ _).alloc _)
  have B1 : Hid (Whole w1 g 25 #[.int .u64 (m.l : Nat), .int .u64 (m.e : Nat)]) := Lib.hid (by rw [hw1, hg]; exact Whole.made _ _ _)
  obtain ⟨i0, hi, hz0, hz1, hz2⟩ := info_parts infoHe
  have HI := Lib.hid hi; clear hi
  have HZ0 := Lib.hid hz0; clear hz0
  have HZ1 := Lib.hid hz1; clear hz1
  have HZ2 := Lib.hid hz2; clear hz2
  have H := Lib.hid h; clear h
  have HN := Lib.hid hn; clear hn
  have HR := Lib.hid hr; clear hr
  have HF0 := Lib.hid hF; clear hF
  have LOF := Lib.hid (fun led ra rn rc rs z (h : Rr z ra rs) (hr : Rt rs) (hn : rn = rs.length) (hsz : rn ≤ 1000) (hc : CapOk ra rn rc) => cqleftof_any led ra rn rc rs m z h hr hn hsz hc hme)
  clear hme
  obtain ⟨Q, hQ⟩ : ∃ Q, Q = LeftEnd w F (hels Y) m := ⟨_, rfl⟩
  rw [← hQ]
  have HQ := Lib.hid hQ; clear hQ
  have SUCa := Lib.hid (fun k (hk : k < (hels Y).length) => leftH_take m hk)
  have L0a : Hid (leftH m ((hels Y).take 0) = []) := Lib.hid rfl
  obtain ⟨LL, hLL⟩ : ∃ LL : Nat → List Hel, LL = fun k => leftH m ((hels Y).take k) := ⟨_, rfl⟩
  have SUC : Hid (∀ k, k < n → LL (k + 1) = LL k ++ (if leftT m (Y.getD k default).t = [] then [] else [((Y.getD k default).t.1, leftT m (Y.getD k default).t)])) := Lib.hid (fun k hk => by
    rw [hLL]
    have := SUCa.out k (by rw [hels_length, ← HN.out]; exact hk)
    rw [hels_getD] at this
    exact this)
  have L0 : Hid (LL 0 = []) := Lib.hid (by rw [hLL]; exact L0a.out)
  have LN : Hid (LL n = leftH m (hels Y)) := Lib.hid (by rw [hLL]; show leftH m ((hels Y).take n) = _; rw [List.take_of_length_le (by rw [hels_length, HN.out]; omega)])
  clear hLL L0a SUCa
  obtain ⟨T, hT⟩ : ∃ T : Hel → List Rg, T = leftT m := ⟨_, rfl⟩
  have TL : Hid (∀ x : Hel, (T x).length ≤ x.2.length) := Lib.hid (fun x => by rw [hT]; exact leftT_len m x)
  rw [← hT] at SUC LOF
  clear hT
  obtain ⟨ml, me⟩ := m
  unfold Ps.val at LOF ⊢
  unfold OwnEnd at LOF
  simp only at hw1 B1 LOF ⊢
  have HW1 := Lib.hid hw1; clear hw1
  go_enter Try.func67, Try.ntmps67
  go_wp2
  rw [← HW1.out, ← hg]
  have HG := Lib.hid hg; clear hg
  go_loopw [5, 11] (fun s5 s11 wr => ∃ (k : Nat) (aS : Option Addr) (sn cS : Nat) (S : List Hx), k ≤ n ∧ s11 = .int .i64 (k : Nat) ∧ s5 = .slice aS sn cS ∧ sn ≤ k ∧ Hid (sn = S.length) ∧ Hid (hels S = LL k) ∧ Hid (HxOwn wr w1.heap.size 55 F aS cS S) ∧ Hid (Frm [] w1 wr)) (fun _ s11 _ => n - (intOf s11).toNat)
  case atStart => exact ⟨0, none, 0, 0, [], Nat.zero_le _, rfl, rfl, Nat.le_refl _, Lib.hid rfl, Lib.hid (by rw [L0.out]; rfl), Lib.hid (HxOwn.nil _ _ _ _), Lib.hid (Frm.refl _ _)⟩
  case round =>
    obtain ⟨k, aS, sn, cS, S, hk, rfl, rfl, hsk, HSN, HSE, HO, HF⟩ := hrel
    have FWR : Hid (Frm [] w wr) := Lib.hid (F1.out.trans HF.out (by simp) (by simp))
    by_cases hlt : k < n
    · have hlt' : (k : Int) < (n : Int) := by omega
      have hkY : k < Y.length := by have := HN.out; omega
      obtain ⟨b, off, rfl, d0, d1, hok⟩ := (H.out.sub FWR.out).at (i := k) hkY
      have RO : Hid ((Y.getD k default).t.2.length ≤ 400 ∧ Rt (Y.getD k default).t.2) := Lib.hid (HR.out _ (by simp [hkY]))
      have SU := Lib.hid (SUC.out k hlt)
      obtain ⟨x, hx⟩ : ∃ x, x = Y.getD k default := ⟨_, rfl⟩
      rw [← hx] at d0 d1 hok RO SU
      have OK := Lib.hid hok
      clear hx hok hkY
      obtain ⟨⟨led, rs⟩, ra, rc⟩ := x
      simp only at d0 d1 RO SU
      have TLX := Lib.hid (TL.out (led, rs))
      obtain ⟨rn, hrn⟩ : ∃ rn, rn = rs.length := ⟨_, rfl⟩
      rw [← hrn] at d1
      obtain ⟨W3, hW3⟩ : ∃ W3, W3 = wr.alloc (.cells #[.int .u64 (led : Nat), .slice ra rn rc] 55) := ⟨_, rfl⟩
      obtain ⟨y3, hy3⟩ : ∃ y3, y3 = wr.heap.size := ⟨_, rfl⟩
      have FW3 : Hid (Frm [] wr W3) := Lib.hid (by rw [hW3]; exact (Frm.refl _ _).alloc _)
      have BW3 : Hid (Whole W3 y3 55 #[.int .u64 (led : Nat), .slice ra rn rc]) := Lib.hid (by rw [hW3, hy3]; exact Whole.made _ _ _)
      have LOX := Lib.hid (LOF.out led ra rn rc rs W3 (OK.out.rs.keep0 FW3.out) RO.out.2 hrn (by have := RO.out.1; omega) ⟨OK.out.nil, by rw [hrn]; exact OK.out.room.1, OK.out.room.2⟩)
      have B3 : Hid (Whole W3 g 25 #[.int .u64 (ml : Nat), .int .u64 (me : Nat)]) := Lib.hid ((HF.out.trans FW3.out (U := []) (by simp) (by simp)).whole B1.out (by simp))
      have NUM : Hid (led < 18446744073709551616) := Lib.hid OK.out.num
      have p0 := B3.out.cell 0
      have p1 := B3.out.cell 1
      have z0 := BW3.out.cell 0
      have z1 := BW3.out.cell 1
      simp only [List.getElem?_toArray, List.getElem?_cons_zero, List.getElem?_cons_succ] at p0 p1 z0 z1
      have HW3 := Lib.hid hW3; clear hW3
      have HY3 := Lib.hid hy3; clear hy3 hrn
      obtain ⟨out, hout⟩ : ∃ out, out = T (led, rs) := ⟨_, rfl⟩
      rw [← hout] at LOX SU TLX
      clear hout
      obtain ⟨on, hon⟩ : ∃ on, on = out.length := ⟨_, rfl⟩
      rw [← hon] at LOX TLX
      have hon4 : on ≤ 400 := by have h1 : on ≤ rs.length := TLX.out; have h2 := RO.out.1; omega
      have HON := Lib.hid hon; clear hon
      go_upto_region 5 with (fail)
      rw [← HW3.out, ← HY3.out]
      clear d0 d1
      go_wp2_with fail
      (with_reducible refine LOX.out.mono ?_)
      rintro e w4 ⟨a4, c4, rfl, O4, F4⟩
      have FW4 : Hid (Frm [] wr w4) := Lib.hid (FW3.out.trans F4.out (by simp) (by simp))
      have b4 := F4.out.whole BW3.out (by simp)
      have u0 := b4.cell 0
      simp only [List.getElem?_toArray, List.getElem?_cons_zero] at u0
      clear p0 p1 z0 z1 b4
      rcases Nat.eq_zero_or_pos on with h0 | h0
      · have dg : ¬ (0 : Int) < (on : Int) := by omega
        have E0 : Hid (LL (k + 1) = LL k) := Lib.hid (by rw [SU.out, if_pos (List.eq_nil_of_length_eq_zero (by have := HON.out; omega)), List.append_nil])
        have NX : Hid (HxOwn w4 w1.heap.size 55 F aS cS S) := Lib.hid (HO.out.keep FW4.out (by simp) (fun x hx => .inl hx))
        have FX : Hid (Frm [] w1 w4) := Lib.hid (HF.out.trans FW4.out (by simp) (by simp))
        clear h0
        go_wp2
        go_roundw
        case rel => exact ⟨k + 1, aS, sn, cS, S, by omega, by go_num, rfl, by omega, HSN, Lib.hid (by rw [HSE.out, E0.out]), NX, FX⟩
        case measure => simp [intOf]; omega
      · have dg : (0 : Int) < (on : Int) := by omega
        have NE : Hid (out ≠ []) := Lib.hid (fun h => by have := HON.out; rw [h] at this; simp at this; omega)
        have E1 : Hid (LL (k + 1) = LL k ++ [(led, out)]) := Lib.hid (by rw [SU.out, if_neg NE.out])
        have hfit : sn + 1 ≤ 1000000000 := by omega
        have hbz : w1.heap.size ≤ (w4.alloc (.cells #[.int .u64 (led : Nat), .slice a4 on c4] 55)).heap.size := by have := HF.out.size; have := FW4.out.size; simp; omega
        have XOK : Hid (HxOk w4 F ⟨(led, out), a4, c4⟩) := Lib.hid ⟨O4.out.1, fun _ q hq hm => by
          have h1 := O4.out.2.2 q hq
          have h2 := FWR.out.size
          have h4 := FW3.out.size
          have h3 := HF0.out _ hm
          omega, O4.out.2.1.1, NUM.out, by rw [← HON.out]; exact ⟨O4.out.2.1.2.1, O4.out.2.1.2.2⟩⟩
        have XB : Hid (∀ q, a4 = some q → q.block ∉ blk aS) := Lib.hid (fun q hq hm => by
          have h1 := O4.out.2.2 q hq
          have h2 := (HO.out.blk_lt _ hm).2
          have h4 := FW3.out.size
          omega)
        have HO4 : Hid (HxOwn (w4.alloc (.cells #[.int .u64 (led : Nat), .slice a4 on c4] 55)) w1.heap.size 55 F aS cS S) := Lib.hid (HO.out.keep (FW4.out.alloc _) (by simp) (fun x hx => .inl hx))
        have OWN : Hid ((w4.alloc (.cells #[.int .u64 (led : Nat), .slice a4 on c4] 55)).ownsRow w1.heap.size 55 2 (.slice aS sn cS) sn (hxc S)) := Lib.hid (by rw [HSN.out]; exact HO4.out.own)
        have ONE : Hid (ValsAt (w4.alloc (.cells #[.int .u64 (led : Nat), .slice a4 on c4] 55)) (some ⟨w4.heap.size, 0, none⟩) (hxc [⟨(led, out), a4, c4⟩])) := Lib.hid (by
          have := hxvals_one w4 ⟨(led, out), a4, c4⟩ 55
          simp only at this
          rw [← HON.out] at this
          exact this)
        have F4W : Hid (Frm [] w1 (w4.alloc (.cells #[.int .u64 (led : Nat), .slice a4 on c4] 55))) := Lib.hid ((HF.out.trans FW4.out (U := []) (by simp) (by simp)).alloc _)
        have FWW : Hid (Frm [] w (w4.alloc (.cells #[.int .u64 (led : Nat), .slice a4 on c4] 55))) := Lib.hid (F1.out.trans F4W.out (by simp) (by simp))
        clear h0
        go_wp2_with (at_builtin; refine wpList_appS (by rfl) (.tmp 21) (.tmp 26) 26 rfl w1.heap.size 55 i0 (.agg #[.int .u64 0, .slice none 0 0]) 2 32 Try.underlying26 HI.out HZ0.out rfl (by decide) HZ1.out HZ2.out (by decide) (.slice aS sn cS) sn _ rfl OWN.out _ 1 1 _ rfl ONE.out rfl (hxc_one _) (fun h => by cases h) hfit hbz ?_)
        intro a5 c5 w5 happ
        have g5 := HO4.out.app (n := sn) (m := 1) (Y := [⟨(led, out), a4, c4⟩]) HSN.out (fun y hy => by
          simp only [List.mem_singleton] at hy
          subst hy
          have hq := XOK.out.keep (F' := F) (S := []) ((Frm.refl [] w4).alloc (.cells #[.int .u64 (led : Nat), .slice a4 on c4] 55)) (by simp) (fun x hx => .inl hx)
          exact ⟨hq.rs, fun hne q hq' hm => (List.mem_append.1 hm).elim (fun h1 => XB.out q hq' h1) (fun h1 => hq.away hne q hq' h1), hq.nil, hq.num, hq.room⟩) rfl (fun x hx => Nat.lt_of_lt_of_le (HF0.out x hx) FWW.out.size) happ
        have NX := Lib.hid g5.1
        have FX : Hid (Frm [] w1 w5) := Lib.hid (F4W.out.trans g5.2.1 (by simp) (fun x hx => .inr (HO.out.blk_lt x hx).1))
        have LNX : Hid (sn + 1 = (S ++ [(⟨(led, out), a4, c4⟩ : Hx)]).length) := Lib.hid g5.2.2.2
        have SEX : Hid (hels (S ++ [(⟨(led, out), a4, c4⟩ : Hx)]) = LL (k + 1)) := Lib.hid (by rw [hels_append, HSE.out, E1.out]; rfl)
        clear happ g5 hbz OWN ONE
        go_wp2
        go_roundw
        case rel => exact ⟨k + 1, a5, sn + 1, c5, S ++ [⟨(led, out), a4, c4⟩], by omega, by go_num, rfl, by omega, LNX, SEX, NX, FX⟩
        case measure => simp [intOf]; omega
    · obtain rfl : k = n := by omega
      have FIN : Hid (Q (.returned (.slice aS sn cS)) wr) := Lib.hid (by
        rw [HQ.out]
        exact ⟨S, aS, sn, cS, rfl, HSN, Lib.hid (by rw [HSE.out, LN.out]), ⟨HO.out.hl, HO.out.caps.2.2, HO.out.caps.1, by have := HO.out.caps.2.1; unfold maxLen at this; omega⟩, FWR⟩)
      go_wp2
      exact FIN.out
end Go.Proofs.Ytghadpihmhaepaa
/- Mathematics of cursors: what a mark's way passes, entries, tight cursors. It speaks of no program. -/
namespace Go.Proofs.Ytghadpihmhaepaa
open Go.RowKit

/-- The later of two places. -/
def maxP (p m : Ps) : Ps := if p.lt m then m else p
/-- Right ranges, one at least, of each. -/
def RgsH (H : List Hel) : Prop := ∀ h ∈ H, h.2 ≠ [] ∧ Rt h.2
theorem ofH_mem {H : List Hel} (hs : Srt H) {h : Hel} (hm : h ∈ H) : ofH H h.1 = h.2 := by
  induction H with
  | nil => cases hm
  | cons a H ih =>
    unfold ofH
    rcases List.mem_cons.1 hm with rfl | hm
    · rw [List.find?_cons_of_pos (by simp)]
    · have := (srt_cons.1 hs).1 h hm
      rw [List.find?_cons_of_neg (by simp; omega)]
      exact ih (srt_cons.1 hs).2 hm
theorem ofH_find (H : List Hel) (l : Nat) : ofH H l = [] ∨ ∃ h ∈ H, h.1 = l ∧ ofH H l = h.2 := by
  unfold ofH
  split
  · rename_i h hf
    exact .inr ⟨h, List.mem_of_find?_eq_some hf, by simpa using List.find?_some hf, rfl⟩
  · exact .inl rfl
/-- A right cursor. -/
structure OkC (c : Crs) : Prop where
  srt : Srt c.held
  rgs : RgsH c.held
  low : ∀ l e, Mem (ofH c.held l) e → ¬ (Ps.mk l e).lt c.mark
theorem RtI.rt {l : List Rg} (h : RtI l) : Rt l := by
  refine ⟨fun p hp => ?_, ?_⟩
  · obtain ⟨i, hi, rfl⟩ := List.mem_iff_getElem.1 hp
    have := (h i hi).1
    simpa [hi] using this
  · have key : ∀ j, j < l.length → ∀ i, i < j → (l.getD i (0, 0)).2 < (l.getD j (0, 0)).1 := by
      intro j
      induction j with
      | zero => intro _ i hi; omega
      | succ j ih =>
        intro hj i hi
        have h1 := (h (j + 1) hj).2 (by omega)
        rw [Nat.add_sub_cancel] at h1
        rcases Nat.lt_or_eq_of_le (Nat.le_of_lt_succ hi) with h2 | rfl
        · have h3 := ih (by omega) i h2
          have h4 := (h j (by omega)).1
          omega
        · exact h1
    rw [List.pairwise_iff_getElem]
    intro i j hi hj hij
    have := key j hj i hij
    simpa [hi, hj] using this
theorem rtc_iff (c : Crs) : RtC c ↔ OkC c := by
  obtain ⟨m, H⟩ := c
  constructor
  · intro h
    have hs : Srt H := by
      have key : ∀ j, j < H.length → ∀ i, i < j → (H.getD i default).1 < (H.getD j default).1 := by
        intro j
        induction j with
        | zero => intro _ i hi; omega
        | succ j ih =>
          intro hj i hi
          have h1 := (h (j + 1) hj).2.2.1 (by omega)
          rw [Nat.add_sub_cancel] at h1
          simp only at h1
          rcases Nat.lt_or_eq_of_le (Nat.le_of_lt_succ hi) with h2 | rfl
          · have h3 := ih (by omega) i h2
            omega
          · exact h1
      unfold Srt
      rw [List.pairwise_iff_getElem]
      intro i j hi hj hij
      have := key j hj i hij
      simpa [hi, hj] using this
    have hr : RgsH H := fun x hx => by
      obtain ⟨i, hi, rfl⟩ := List.mem_iff_getElem.1 hx
      have h1 := h i hi
      unfold RtH1 at h1
      simp only at h1
      rw [show H.getD i default = H[i] by simp [hi]] at h1
      exact ⟨h1.1, h1.2.1.rt⟩
    refine ⟨hs, hr, fun l e he => ?_⟩
    simp only at he ⊢
    rcases ofH_find H l with h0 | ⟨x, hx, hl, h0⟩
    · rw [h0] at he; exact absurd he (Mem.nil _)
    · rw [h0] at he
      obtain ⟨i, hi, rfl⟩ := List.mem_iff_getElem.1 hx
      have h1 := h i hi
      unfold RtH1 at h1
      simp only at h1
      rw [show H.getD i default = H[i] by simp [hi]] at h1
      have h2 := h1.2.2.2
      rw [hl] at h2
      have h3 := (hr _ hx).2
      cases hR : (H[i]).2 with
      | nil => exact absurd hR h1.1
      | cons p R =>
        rw [hR] at h2 h3 he
        have h4 := mem_lo h3 he
        simp only [List.getD_cons_zero] at h2
        unfold Ps.lt at *
        simp only at *
        omega
  · intro h i hi
    have hm : H[i] ∈ H := List.getElem_mem hi
    have h1 := h.rgs _ hm
    unfold RtH1
    simp only
    rw [show H.getD i default = H[i] by simp [hi]]
    refine ⟨h1.1, RtI.of h1.2, fun h0 => ?_, ?_⟩
    · have h2 := List.pairwise_iff_getElem.1 h.srt (i - 1) i (by simp only at hi ⊢; omega) hi (by omega)
      have hi' : i - 1 < H.length := by simp only at hi; omega
      rw [show H.getD (i - 1) default = H[i - 1] by simp [hi']]
      exact h2
    · refine h.low _ _ ?_
      rw [ofH_mem h.srt hm]
      cases hR : (H[i]).2 with
      | nil => exact absurd hR h1.1
      | cons p R =>
        have h3 := h1.2
        rw [hR] at h3
        simp only [List.getD_cons_zero]
        exact (mem_cons _ _ _).2 (.inl ⟨Nat.le_refl _, ((rt_cons _ _).1 h3).1⟩)
theorem reach_cases {X : List Ld} {o : Nat} {H : List Hel} {m A : Ps} (h : Reach X o H m A) : m = A ∨ ∃ b, Step X o H m b ∧ Reach X o H b A := by
  induction h with
  | refl => exact .inl rfl
  | step h1 h2 ih =>
    rename_i a b
    rcases ih with rfl | ⟨c, h3, h4⟩
    · exact .inr ⟨b, h2, .refl _⟩
    · exact .inr ⟨c, h3, .step h4 h2⟩
theorem step_on {X : List Ld} {o : Nat} {H : List Hel} {m b A : Ps} (h : Reach X o H m A) (hs : Stop X o H A) (st : Step X o H m b) : Reach X o H b A := by
  rcases reach_cases h with rfl | ⟨c, h1, h2⟩
  · obtain ⟨p, hn, hm, _⟩ := st
    exact absurd hm (hs p hn)
  · rw [st.uniq h1]; exact h2
theorem reach_on {X : List Ld} {o : Nat} {H : List Hel} {m A B : Ps} (h : Reach X o H m A) (hs : Stop X o H A) (hB : Reach X o H m B) : Reach X o H B A := by
  induction hB with
  | refl => exact h
  | step _ h2 ih => exact step_on ih hs h2
theorem reach_uniq {X : List Ld} {o : Nat} {H : List Hel} {m A B : Ps} (h : Reach X o H m A) (hs : Stop X o H A) (hB : Reach X o H m B) (sB : Stop X o H B) : A = B := by
  rcases reach_cases (reach_on h hs hB) with h1 | ⟨c, h1, _⟩
  · exact h1.symm
  · obtain ⟨p, hn, hm, _⟩ := h1
    exact absurd hm (sB p hn)
end Go.Proofs.Ytghadpihmhaepaa
/- Contract of bytes.Clone: for every slice of bytes, nil or not: a row of the call's own with the same bytes. -/
namespace Go.Proofs.Ytghadpihmhaepaa
open Go.RowKit

theorem Try.info5 : (Try.prog.info? 5).map (fun i => (i.zero, i.size, i.bytes)) = some (some (.int .u8 0), 1, 1) := by kernel_rfl

/-- What a call hands back that makes bytes of its own: a slice value, the row that it owns from base on. -/
def Own (w w' : World) (l : List Nat) (e : Ending) : Prop :=
  ∃ a' cap', e = .returned (.slice a' l.length cap') ∧ w'.ownsRow w.heap.size 5 1 (.slice a' l.length cap') l.length (l.map u8v) ∧ Frm [] w w'

theorem clone_any (a : Option Addr) (n cap : Nat) (l : List Nat) (w : World) (hl : Bytes w a l) (hn : n = l.length) (hnil : a = none → cap = 0) (hfit : n ≤ 140737488355328) :
    Calls Try.prog 84 #[.slice a n cap] w fun e w' => Own w w' l e := by
  have hq := fun (w : World) (a : Option Addr) (n c n' c' : Nat) => Lib.run_eql_slice_nil (P := Try.prog) w 22 5 a n c n' c' Try.underlying22
  cases a with
  | none =>
    have h0 : l = [] := by
      rcases hl.2.2 with h | ⟨b, off, h, _⟩
      · exact h
      · cases h
    subst h0
    obtain rfl := hnil rfl
    subst hn
    go_enter Try.func84, Try.ntmps84
    go_wp2
    go_ret
    exact ⟨none, 0, rfl, World.ownsRow_nil _ _ _ _, Frm.refl _ _⟩
  | some x =>
    obtain ⟨i0, hi, hz0, hz1, hz2⟩ := info_parts Try.info5
    have HL := Lib.hid hl; clear hl
    have HN := Lib.hid hn; clear hn
    have HI := Lib.hid hi; clear hi
    have HZ0 := Lib.hid hz0; clear hz0
    have HZ1 := Lib.hid hz1; clear hz1
    have HZ2 := Lib.hid hz2; clear hz2
    clear hnil
    go_enter Try.func84, Try.ntmps84
    go_wp2_with (at_builtin; refine wpList_append_bytes rfl (.tmp 5) (.tmp 6) 22 rfl w.heap.size 5 i0 Try.underlying22 HI.out HZ0.out HZ1.out HZ2.out _ 0 [] rfl ?own1 _ _ _ l rfl ?b1 HN.out ?nil1 ?fit1 ?base1 ?_)
    case own1 => exact World.ownsRow_lit w #[] 0 (Nat.le_refl _) (by unfold maxLen; omega) rfl
    case b1 => exact ((Frm.refl [] w).alloc _).bytes HL.out (by simp)
    case nil1 => intro h; cases h
    case fit1 => omega
    case base1 => simp
    intro a2 cap2 w2 hown2 hg2
    have hf2 : Frm [] w w2 := ((Frm.refl [] w).alloc _).grown hg2 (fun k hk => .inr (by simp [Value.ownBlock] at hk; omega))
    clear hg2
    go_wp2
    go_ret
    have h := HN.out
    subst h
    exact ⟨a2, cap2, rfl, hown2, hf2⟩
/-- What comes of a row of the call's own. -/
theorem own_bytes {w' : World} {base : Nat} {a : Option Addr} {cap : Nat} {l : List Nat} (h : w'.ownsRow base 5 1 (.slice a l.length cap) l.length (l.map u8v)) (h8 : ∀ c ∈ l, c < 256) :
    Bytes w' a l ∧ (a = none → cap = 0) := ⟨(bytes_of_own h h8).2.1, (bytes_of_own h h8).2.2⟩
end Go.Proofs.Ytghadpihmhaepaa
/- Plain arithmetic: a number's bytes, the greatest first (be), and back (val). It speaks of no program. -/
namespace Go.Proofs.Ytghadpihmhaepaa

def be : Nat → Nat → List Nat
  | 0, _ => []
  | k + 1, n => be k (n / 256) ++ [n % 256]
def val (l : List Nat) : Nat := l.foldl (fun x c => x * 256 + c) 0

theorem be_length (k n : Nat) : (be k n).length = k := by
  induction k generalizing n with
  | zero => rfl
  | succ k ih => simp [be, ih]
theorem be_lt (k n : Nat) : ∀ c ∈ be k n, c < 256 := by
  induction k generalizing n with
  | zero => simp [be]
  | succ k ih =>
    intro c hc
    rcases List.mem_append.1 hc with h | h
    · exact ih _ c h
    · simp at h; omega
theorem val_snoc (l : List Nat) (c : Nat) : val (l ++ [c]) = val l * 256 + c := by simp [val]
theorem val_be (k n : Nat) (h : n < 256 ^ k) : val (be k n) = n := by
  induction k generalizing n with
  | zero => simp at h; subst h; rfl
  | succ k ih =>
    rw [be, val_snoc, ih (n / 256) (by rw [Nat.pow_succ] at h; omega)]; omega
theorem snoc_ind {p : List Nat → Prop} (h0 : p []) (h1 : ∀ l c, p l → p (l ++ [c])) (l : List Nat) : p l := by
  have H : ∀ m : List Nat, p m.reverse := by
    intro m
    induction m with
    | nil => exact h0
    | cons c m ih => rw [List.reverse_cons]; exact h1 _ _ ih
  have := H l.reverse
  rwa [List.reverse_reverse] at this
theorem val_lt (l : List Nat) (h : ∀ c ∈ l, c < 256) : val l < 256 ^ l.length := by
  revert h
  refine snoc_ind (p := fun l => (∀ c ∈ l, c < 256) → val l < 256 ^ l.length) ?_ ?_ l
  · intro _; simp [val]
  · intro l c ih h
    have h1 := ih (fun x hx => h x (by simp [hx]))
    have h2 := h c (by simp)
    rw [val_snoc, List.length_append, List.length_singleton, Nat.pow_succ]; omega
theorem val_zeros (m : Nat) (l : List Nat) : val (List.replicate m 0 ++ l) = val l := by
  induction m with
  | zero => rfl
  | succ m ih =>
    rw [← ih]
    simp [val, List.replicate_succ]
/-- The eight bytes of a number, each by itself. -/
theorem be8 (n : Nat) (h : n < 18446744073709551616) : be 8 n = [n / 72057594037927936, n / 281474976710656 % 256, n / 1099511627776 % 256, n / 4294967296 % 256, n / 16777216 % 256, n / 65536 % 256, n / 256 % 256, n % 256] := by
  simp only [be, List.nil_append, List.cons_append, List.cons.injEq, and_true]
  repeat' apply And.intro
  all_goals omega
theorem be_drop (k n : Nat) (hk : k ≤ 8) : (be 8 n).drop (8 - k) = be k n := by
  have H : ∀ (m k n : Nat), (be (m + k) n).drop m = be k n := by
    intro m k
    induction k with
    | zero => intro n; simp [be, be_length]
    | succ k ih =>
      intro n
      show (be (m + k) (n / 256) ++ [n % 256]).drop m = _
      rw [List.drop_append_of_le_length (by rw [be_length]; omega), ih]; rfl
  have := H (8 - k) k n
  rwa [show 8 - k + k = 8 by omega] at this
end Go.Proofs.Ytghadpihmhaepaa
/- Contracts of pack.digits and pack.value: a number's eight bytes, the greatest first, and back. -/
namespace Go.Proofs.Ytghadpihmhaepaa
open Go.RowKit

/-- What digits hands back: the eight bytes, each by a name. -/
def Eight (n : Nat) (w w' : World) (e : Ending) : Prop :=
  ∃ d0 d1 d2 d3 d4 d5 d6 d7 : Nat, be 8 n = [d0, d1, d2, d3, d4, d5, d6, d7] ∧
    e = .returned (.agg #[.int .u8 d0, .int .u8 d1, .int .u8 d2, .int .u8 d3, .int .u8 d4, .int .u8 d5, .int .u8 d6, .int .u8 d7]) ∧ Below w.heap.size w w'

set_option maxHeartbeats 4000000 in
theorem digits_any (n : Nat) (w : World) (hn : n < 18446744073709551616) :
    Calls Try.prog 109 #[.int .u64 n] w fun e w' => Eight n w w' e := by
  have H8 := Lib.hid (be8 n hn)
  go_enter Try.func109, Try.ntmps109
  go_wp2
  refine wp_loop_rounds 9 ?_
  iterate 9 (rw [rounds_succ]; go_wp2)
  refine bodyPost_ret (results_cell_row (P := Try.prog) rfl _ _ w.heap.size _ _ _ _ rfl (heap_alloc2_old w _ _) Try.underlying147 rfl (by kernel_rfl)) rfl ?_
  exact ⟨_, _, _, _, _, _, _, _, H8.out, rfl, ((Below.refl _ _).alloc (Nat.le_refl _) _).alloc (by simp) _⟩
end Go.Proofs.Ytghadpihmhaepaa
/- Writer: what a Writer reads as (Wr); contract of Writer.put: the bytes are put behind. -/
namespace Go.Proofs.Ytghadpihmhaepaa
open Go.RowKit

/-- The Writer at block p has put the bytes l; its blocks, all from B on, are F. -/
def Wr (w : World) (B p : Nat) (F : List Nat) (l : List Nat) : Prop :=
  (∀ c ∈ l, c < 256) ∧ B ≤ p ∧
  ((l = [] ∧ F = [p] ∧ Whole w p 93 #[.pointer none, .int .i64 0]) ∨
   ∃ r a cap, Whole w p 93 #[.pointer (some ⟨r, 0, none⟩), .int .i64 (l.length : Nat)] ∧ Whole w r 122 #[.slice a l.length cap] ∧
     w.ownsRow B 5 1 (.slice a l.length cap) l.length (l.map u8v) ∧ B ≤ r ∧ F = p :: r :: (Value.slice a l.length cap).ownBlock.toList)

/-- What putting the bytes b leaves. -/
def Put (w w' : World) (B p : Nat) (F : List Nat) (l b : List Nat) : Prop :=
  ∃ F', Wr w' B p F' (l ++ b) ∧ Frm F w w' ∧ ∀ x ∈ F', x ∈ F ∨ w.heap.size ≤ x
def PutEnd (w : World) (B p : Nat) (F : List Nat) (l b : List Nat) (e : Ending) (w' : World) : Prop := e = .returned (.tuple #[]) ∧ Put w w' B p F l b

/-- Behind the append: the two stores that are left of put. -/
theorem put_end {B p r : Nat} {sa : Option Addr} {scap k n : Nat} {l b : List Nat} {w w1 : World} {m : Nat} {a' : Option Addr} {cap' : Nat} (hk : k = l.length) (hn : n = b.length) (h8 : ∀ c ∈ l, c < 256) (h8b : ∀ c ∈ b, c < 256)
    (hp : Whole w p 93 #[.pointer (some ⟨r, 0, none⟩), .int .i64 (k : Nat)]) (hr : Whole w r 122 #[.slice sa k scap])
    (hown : w.ownsRow B 5 1 (.slice sa k scap) k (l.map u8v)) (hBr : B ≤ r) (hBp : B ≤ p)
    (h : App (w.drewN m) w1 B 5 (.slice sa k scap) k n (l.map u8v) b a' cap') :
    Put w ((w1.setCell ⟨r, 0, none⟩ (.slice a' (k + n) cap')).setCell ⟨p, 1, none⟩ (.int .i64 ((k : Int) + n))) B p (p :: r :: (Value.slice sa k scap).ownBlock.toList) l b := by
  subst hk; subst hn
  have hpr : p ≠ r := hp.ne hr (by decide)
  have ho : ∀ g, (Value.slice sa l.length scap).ownBlock = some g → g ≠ p ∧ g ≠ r := fun g hg =>
    ⟨fun e => own_ne hown hp (by decide) (e ▸ hg), fun e => own_ne hown hr (by decide) (e ▸ hg)⟩
  have hf1 : Frm ((Value.slice sa l.length scap).ownBlock.toList) w w1 := ((Frm.refl _ w).drewN m).grown h.grown (fun k hk => .inl (by rw [hk]; simp))
  have hp1 : Whole w1 p _ _ := hf1.whole hp (by
    intro hm
    cases hg : (Value.slice sa l.length scap).ownBlock with
    | none => rw [hg] at hm; simp at hm
    | some g => rw [hg] at hm; simp at hm; exact (ho g hg).1 hm.symm)
  have hr1 : Whole w1 r _ _ := hf1.whole hr (by
    intro hm
    cases hg : (Value.slice sa l.length scap).ownBlock with
    | none => rw [hg] at hm; simp at hm
    | some g => rw [hg] at hm; simp at hm; exact (ho g hg).2 hm.symm)
  have hlen : (l ++ b).length = l.length + b.length := List.length_append
  have hp2 := (hp1.other (p := ⟨r, 0, none⟩) hpr (.slice a' (l.length + b.length) cap')).put 1 (.int .i64 ((l.length : Int) + b.length))
  have hr2 := (hr1.put 0 (.slice a' (l.length + b.length) cap')).other (p := ⟨p, 1, none⟩) (Ne.symm hpr) (.int .i64 ((l.length : Int) + b.length))
  have own1 := h.own
  have op1 := own_ne own1 hp1 (by decide)
  have or1 := own_ne own1 hr1 (by decide)
  have own2 := ownsRow_setCell_other own1 (a := ⟨r, 0, none⟩) or1 (.slice a' (l.length + b.length) cap')
  have own3 := ownsRow_setCell_other own2 (a := ⟨p, 1, none⟩) op1 (.int .i64 ((l.length : Int) + b.length))
  refine ⟨p :: r :: (Value.slice a' (l.length + b.length) cap').ownBlock.toList, ⟨?_, hBp, .inr ⟨r, a', cap', ?_, ?_, ?_, hBr, ?_⟩⟩, ?_, ?_⟩
  · intro c hc
    rcases List.mem_append.1 hc with h | h
    · exact h8 c h
    · exact h8b c h
  · rw [hlen]; simpa using hp2
  · rw [hlen]; simpa using hr2
  · rw [hlen, List.map_append]; exact own3
  · rw [hlen]
  · refine ((hf1.weak (U := p :: r :: (Value.slice sa l.length scap).ownBlock.toList) ?_).setCell (.inl (by simp)) _).setCell (.inl (by simp)) _
    intro x hx; left; simp [hx]
  · intro x hx
    simp only [List.mem_cons] at hx
    rcases hx with rfl | rfl | hx
    · left; simp
    · left; simp
    · rcases h.place with hpl | hpl
      · left; rw [hpl] at hx; simp [hx]
      · right
        rw [hpl] at hx
        simp at hx
        omega

set_option maxHeartbeats 1000000 in
/-- put where the row is there. -/
theorem put_on (B p r : Nat) (sa : Option Addr) (scap : Nat) (l : List Nat) (a : Option Addr) (n cap : Nat) (b : List Nat) (w : World) (h8 : ∀ c ∈ l, c < 256)
    (hp : Whole w p 93 #[.pointer (some ⟨r, 0, none⟩), .int .i64 (l.length : Nat)]) (hr : Whole w r 122 #[.slice sa l.length scap])
    (hown : w.ownsRow B 5 1 (.slice sa l.length scap) l.length (l.map u8v)) (hBr : B ≤ r) (hBp : B ≤ p)
    (hb : Bytes w a b) (hn : n = b.length) (hnil : a = none → cap = 0) (hfit : l.length + n ≤ 140737488355328) :
    Calls Try.prog 110 #[.pointer (some ⟨p, 0, none⟩), .slice a n cap] w (PutEnd w B p (p :: r :: (Value.slice sa l.length scap).ownBlock.toList) l b) := by
  have hnp : p ≠ r := hp.ne hr (by decide)
  have hBw : B ≤ w.heap.size := Nat.le_of_lt (Nat.lt_of_le_of_lt hBp hp.lt)
  obtain ⟨i0, hi, hz0, hz1, hz2⟩ := info_parts Try.info5
  obtain ⟨k, hk⟩ : ∃ k, k = l.length := ⟨_, rfl⟩
  rw [← hk] at hp hr hown hfit ⊢
  have keep : ∀ (m : Nat) (w1 : World), (w.drewN m).grownBy w1 (Value.slice sa k scap).ownBlock → Whole w1 p 93 #[.pointer (some ⟨r, 0, none⟩), .int .i64 (k : Nat)] ∧ Whole w1 r 122 #[.slice sa k scap] := fun m w1 hg =>
    ⟨(hg.block p hp.lt (fun e => own_ne hown hp (by decide) e.symm)).trans hp, (hg.block r hr.lt (fun e => own_ne hown hr (by decide) e.symm)).trans hr⟩
  have KEEP := Lib.hid keep; clear keep
  have c0 := hp.cell 0
  have c1 := hp.cell 1
  have cr := hr.cell 0
  have fp0 := hp.free 0
  have fp1 := hp.free 1
  have fr := hr.free 0
  simp at c0 c1 cr
  have hlt : decide ((k : Int) < (k : Int)) = false := by simp
  have h8b := hb.1
  have FIN := Lib.hid (fun (m : Nat) (w1 : World) (a' : Option Addr) (cap' : Nat) => put_end (B := B) (p := p) (r := r) (sa := sa) (scap := scap) (k := k) (n := n) (l := l) (b := b) (w := w) (w1 := w1) (m := m) (a' := a') (cap' := cap') hk hn h8 h8b hp hr hown hBr hBp)
  clear h8 h8b hp hr
  have HO := Lib.hid hown; clear hown
  have HB := Lib.hid hb; clear hb
  have HN := Lib.hid hn; clear hn
  have HK := Lib.hid hk; clear hk
  go_enter Try.func110, Try.ntmps110
  go_wp2
  go_quiet (fail)
  go_wp2
  go_region_law ((refine step_app rfl (.tmp 43) (.tmp 44) 22 rfl B 5 i0 Try.underlying22 hi hz0 hz1 hz2 (.slice sa k scap) k _ rfl HO.out _ _ _ b rfl ?_ HN.out hnil hfit ?_ ?_; (exact HB.out); (exact hBw); intro a' cap' w1 happ; have HA := Lib.hid happ; obtain ⟨hp1, hr1⟩ := KEEP.out _ _ happ.grown; have q0 := hp1.cell 0; have q1 := hr1.cell 0; have q2 := hr1.free 0; simp at q0 q1; clear happ hp1 hr1))
  all_goals
    obtain ⟨hp1, hr1⟩ := KEEP.out _ _ HA.out.grown
    have hp2 := (hp1.other (p := ⟨r, 0, none⟩) hnp (.slice a' (k + n) cap'))
    have hr2 := (hr1.put 0 (.slice a' (k + n) cap'))
    have s0 := hp2.cell 0
    have s1 := hr2.cell 0
    have s2 := hp2.cell 1
    have s3 := hp2.free 1
    simp at s0 s1 s2
    clear hp1 hr1 hp2 hr2
    go_wp2
    go_end0
    exact ⟨rfl, FIN.out _ _ _ _ HA.out⟩
end Go.Proofs.Ytghadpihmhaepaa
/- Contract of Writer.Done: a row of its own with all that was put. -/
namespace Go.Proofs.Ytghadpihmhaepaa
open Go.RowKit

theorem Frm.undrew {S : List Nat} {w w' : World} (h : Frm S w.drew w') : Frm S w w' := ⟨h.os, h.tape, h.output, h.size, h.block⟩

theorem done_nil (p : Nat) (w : World) (hp : Whole w p 93 #[.pointer none, .int .i64 0]) :
    Calls Try.prog 59 #[.pointer (some ⟨p, 0, none⟩)] w fun e w' => e = .returned (.slice none 0 0) ∧ w = w' := by
  have c0 := hp.cell 0
  simp at c0
  clear hp
  go_enter Try.func59, Try.ntmps59
  go_wp2
  go_ret
  exact ⟨rfl, rfl⟩

set_option maxRecDepth 100000 in
set_option maxHeartbeats 1000000 in
theorem done_on (B p r : Nat) (sa : Option Addr) (scap : Nat) (l : List Nat) (w : World) (h8 : ∀ c ∈ l, c < 256)
    (hp : Whole w p 93 #[.pointer (some ⟨r, 0, none⟩), .int .i64 (l.length : Nat)]) (hr : Whole w r 122 #[.slice sa l.length scap])
    (hown : w.ownsRow B 5 1 (.slice sa l.length scap) l.length (l.map u8v)) (hfit : l.length ≤ 140737488355328) :
    Calls Try.prog 59 #[.pointer (some ⟨p, 0, none⟩)] w fun e w' => Own w w' l e := by
  obtain ⟨hb, hnil⟩ := own_bytes hown h8
  have hcap : l.length ≤ scap := by
    rcases hown.2 with ⟨h, h0⟩ | ⟨g, cap, cur, hv, _, _, hnc, _⟩
    · omega
    · injection hv with _ _ h; omega
  have hcap63 : scap ≤ 9223372036854775807 := by
    rcases hown.2 with ⟨h, h0⟩ | ⟨g, cap, cur, hv, _, _, _, hm, _⟩
    · injection h with _ _ h; omega
    · injection hv with _ _ h; unfold maxLen at hm; omega
  have CL := Lib.hid (fun (w' : World) (hB : Bytes w' sa l) => clone_any sa l.length scap l w' hB rfl hnil hfit)
  obtain ⟨k, hk⟩ : ∃ k, k = l.length := ⟨_, rfl⟩
  rw [← hk] at hp hr hcap CL
  have c0 := hp.cell 0
  have c1 := hp.cell 1
  have cr := hr.cell 0
  simp at c0 c1 cr
  clear hp hr hown hnil hfit
  have HB := Lib.hid hb; clear hb
  have HK := Lib.hid hk; clear hk
  go_enter Try.func59, Try.ntmps59
  go_wp2
  go_still_tail 12, (by kernel_rfl)
  change wpList _ _ _ _ _ w.drew
  go_wp2_with fail
  refine (CL.out w.drew HB.out).mono ?_
  rintro e w' ⟨a', cap', rfl, ho, hf⟩
  have HO := Lib.hid ho; clear ho
  have HF := Lib.hid hf; clear hf
  clear HK
  go_wp2
  go_ret
  exact ⟨a', cap', rfl, HO.out, HF.out.undrew⟩

theorem done_any {w : World} {B p : Nat} {F : List Nat} {l : List Nat} (h : Wr w B p F l) (hfit : l.length ≤ 140737488355328) :
    Calls Try.prog 59 #[.pointer (some ⟨p, 0, none⟩)] w fun e w' => Own w w' l e := by
  obtain ⟨h8, hBp, ⟨rfl, rfl, hp⟩ | ⟨r, a, cap, hp, hr, hown, hBr, rfl⟩⟩ := h
  · exact (done_nil p w hp).mono fun e w' ⟨he, hw⟩ => ⟨none, 0, he, by subst hw; exact World.ownsRow_nil _ _ _ _, by subst hw; exact Frm.refl _ _⟩
  · exact done_on B p r a cap l w h8 hp hr hown hfit
end Go.Proofs.Ytghadpihmhaepaa
/- Pieces of slices of bytes. They speak of no program. -/
namespace Go.Proofs.Ytghadpihmhaepaa
open Go.RowKit

theorem Bytes.nil {w : World} (a : Option Addr) : Bytes w a [] := ⟨by simp, by simp, .inl rfl⟩
theorem Bytes.take {w : World} {a : Option Addr} {l : List Nat} (h : Bytes w a l) (k : Nat) : Bytes w a (l.take k) := by
  obtain ⟨h8, hm, hc⟩ := h
  refine ⟨fun c hc => h8 c (List.mem_of_mem_take hc), by have := List.length_take_le k l; simp; omega, ?_⟩
  rcases hc with h | ⟨b, off, ha, hc⟩
  · left; rw [h]; simp
  · refine .inr ⟨b, off, ha, fun i hi => ?_⟩
    rw [List.length_take] at hi
    have e : (l.take k).getD i 0 = l.getD i 0 := by simp [List.getD, show i < k by omega]
    rw [e]; exact hc i (by omega)
theorem Bytes.drop {w : World} {a : Option Addr} {l : List Nat} (h : Bytes w a l) (k : Nat) : Bytes w (a.map (fun x => x.add k)) (l.drop k) := by
  obtain ⟨h8, hm, hc⟩ := h
  refine ⟨fun c hc => h8 c (List.mem_of_mem_drop hc), by simp; omega, ?_⟩
  rcases hc with h | ⟨b, off, ha, hc⟩
  · left; rw [h]; simp
  · refine .inr ⟨b, off + k, by rw [ha]; simp [addr_add], fun i hi => ?_⟩
    rw [List.length_drop] at hi
    have e : (l.drop k).getD i 0 = l.getD (k + i) 0 := by simp [List.getD, List.getElem?_drop]
    rw [e, Nat.add_assoc]; exact hc (k + i) (by omega)
end Go.Proofs.Ytghadpihmhaepaa
/- Reader: what a Reader reads as (Rdr), what a throw leaves (Thrown); contracts of reads, Left, throw, take. -/
namespace Go.Proofs.Ytghadpihmhaepaa
open Go.RowKit

/-- The Reader at block rb, of the call at cb, has the bytes l left, which lie in block db. -/
def Rdr (w : World) (rb cb db : Nat) (l : List Nat) : Prop :=
  ∃ a cap, Whole w rb 127 #[.slice a l.length cap, .pointer (some ⟨cb, 0, none⟩)] ∧ Whole w cb 125 #[.bool false, .int .i64 0] ∧ Bytes w a l ∧
    l.length ≤ cap ∧ cap ≤ 9223372036854775807 ∧ (a = none → cap = 0) ∧ (∀ x, a = some x → x.block = db) ∧ db ≠ rb ∧ db ≠ cb

/-- What is thrown: the call itself, with its code. -/
def Thrown (w : World) (rb cb : Nat) (c : Int) (e : Ending) (w' : World) : Prop :=
  e = .panicked [{ v := .iface 123 (.pointer (some ⟨cb, 0, none⟩)), recovered := false }] ∧ Whole w' cb 125 #[.bool false, .int .i64 c] ∧ Frm [rb, cb] w w'

theorem Rdr.ne {w : World} {rb cb db : Nat} {l : List Nat} (h : Rdr w rb cb db l) : rb ≠ cb := by
  obtain ⟨a, cap, h1, h2, _⟩ := h
  exact h1.ne h2 (by decide)

theorem reads_any {w : World} {rb cb db : Nat} {l : List Nat} (h : Rdr w rb cb db l) :
    Calls Try.prog 106 #[.pointer (some ⟨rb, 0, none⟩)] w fun e w' => e = .returned (.bool true) ∧ w = w' := by
  obtain ⟨a, cap, h1, h2, _⟩ := h
  have c1 := h1.cell 1
  have c2 := h2.cell 0
  simp at c1 c2
  clear h1 h2
  go_enter Try.func106, Try.ntmps106
  go_wp2
  go_ret
  exact ⟨rfl, rfl⟩

theorem left_any {w : World} {rb cb db : Nat} {l : List Nat} (h : Rdr w rb cb db l) :
    Calls Try.prog 104 #[.pointer (some ⟨rb, 0, none⟩)] w fun e w' => e = .returned (.int .i64 (l.length : Nat)) ∧ w = w' := by
  have H := Lib.hid h
  obtain ⟨a, cap, h1, h2, _⟩ := h
  have c1 := h1.cell 0
  simp at c1
  clear h1 h2
  go_enter Try.func104, Try.ntmps104
  go_wp2_with (go_at_call 106; refine (reads_any H.out).mono ?_; rintro e w' ⟨rfl, rfl⟩)
  go_ret
  exact ⟨rfl, rfl⟩

theorem throw_any {w : World} {rb cb db : Nat} {l : List Nat} (c : Int) (h : Rdr w rb cb db l) :
    Calls Try.prog 107 #[.pointer (some ⟨rb, 0, none⟩), .int .i64 c] w (Thrown w rb cb c) := by
  have hne := h.ne
  obtain ⟨a, cap, h1, h2, _⟩ := h
  have c1 := h1.cell 1
  have c2 := h2.cell 1
  have f2 := h2.free 1
  have c3 := (h1.other (p := ⟨cb, 1, none⟩) hne (.int .i64 c)).cell 1
  simp at c1 c2 c3
  have HW := Lib.hid (h2.put 1 (.int .i64 c))
  clear h1 h2
  go_enter Try.func107, Try.ntmps107
  go_wp2
  exact ⟨rfl, rfl, HW.out, (Frm.refl _ _).setCell (.inl (by simp)) _⟩

/-- What is taken: a piece of the bytes. -/
def Taken (w : World) (rb cb db : Nat) (l : List Nat) (k : Nat) (e : Ending) (w' : World) : Prop :=
  ∃ a cap, e = .returned (.slice a k cap) ∧ Bytes w' a (l.take k) ∧ k ≤ cap ∧ cap ≤ 9223372036854775807 ∧ (a = none → cap = 0) ∧ (∀ x, a = some x → x.block = db) ∧ Rdr w' rb cb db (l.drop k) ∧ Frm [rb] w w'

theorem take_short {w : World} {rb cb db : Nat} {l : List Nat} (k : Nat) (h : Rdr w rb cb db l) (hk : l.length < k) (hk64 : k < 18446744073709551616) :
    Calls Try.prog 111 #[.pointer (some ⟨rb, 0, none⟩), .int .u64 k] w (Thrown w rb cb 4) := by
  have H := Lib.hid h
  obtain ⟨a, cap, h1, h2, h3, hlc, hcm, _⟩ := h
  have c0 := h1.cell 0
  have c1 := h1.cell 1
  have c2 := h2.cell 1
  simp at c0 c1 c2
  clear h1 h2 h3
  go_enter Try.func111, Try.ntmps111
  go_wp2_with (go_at_call 106; refine (reads_any H.out).mono ?_; rintro e w' ⟨rfl, rfl⟩)
  refine (throw_any 4 H.out).mono ?_
  rintro e w' ⟨rfl, h1, h2⟩
  exact ⟨rfl, rfl, h1, h2⟩

theorem take_end {w : World} {rb cb db : Nat} {l : List Nat} {k : Nat} {a a2 : Option Addr} {cap cap2 : Nat} (hne : rb ≠ cb)
    (h1 : Whole w rb 127 #[.slice a l.length cap, .pointer (some ⟨cb, 0, none⟩)]) (h2 : Whole w cb 125 #[.bool false, .int .i64 0]) (h3 : Bytes w a l)
    (hlc : l.length ≤ cap) (hcm : cap ≤ 9223372036854775807) (hnil : a = none → cap = 0) (hdb : ∀ x, a = some x → x.block = db) (d1 : db ≠ rb) (d2 : db ≠ cb) (hk : k ≤ l.length)
    (hb : Bytes w a2 (l.drop k)) (hl2 : l.length - k ≤ cap2) (hc2 : cap2 ≤ cap) (hn2 : a2 = none → cap2 = 0) (hdb2 : ∀ x, a2 = some x → x.block = db) :
    Taken w rb cb db l k (.returned (.slice a k cap)) (w.setCell ⟨rb, 0, none⟩ (.slice a2 (l.length - k) cap2)) := by
  have hf : Frm [rb] w (w.setCell ⟨rb, 0, none⟩ (.slice a2 (l.length - k) cap2)) := (Frm.refl _ _).setCell (.inl (by simp)) _
  refine ⟨a, cap, rfl, hf.bytes (h3.take k) (fun x hx => by rw [hdb x hx]; simpa using d1), by omega, hcm, hnil, hdb, ⟨a2, cap2, ?_, hf.whole h2 (by simpa using hne.symm), hf.bytes hb (fun x hx => by rw [hdb2 x hx]; simpa using d1), by simpa using hl2, by omega, hn2, hdb2, d1, d2⟩, hf⟩
  simpa using h1.put 0 (.slice a2 (l.length - k) cap2)

set_option maxHeartbeats 1000000 in
theorem take_ok {w : World} {rb cb db : Nat} {l : List Nat} (k : Nat) (h : Rdr w rb cb db l) (hk : k ≤ l.length) :
    Calls Try.prog 111 #[.pointer (some ⟨rb, 0, none⟩), .int .u64 k] w (Taken w rb cb db l k) := by
  have H := Lib.hid h
  obtain ⟨a, cap, h1, h2, h3, hlc, hcm, hnil, hdb, d1, d2⟩ := h
  have c0 := h1.cell 0
  have c1 := h1.cell 1
  have c2 := h2.cell 1
  have f0 := h1.free 0
  simp at c0 c1 c2
  have hll : l.length ≤ 9223372036854775807 := h3.2.1
  have END := Lib.hid (fun (a2 : Option Addr) (cap2 : Nat) => take_end (a2 := a2) (cap2 := cap2) H.out.ne h1 h2 h3 hlc hcm hnil hdb d1 d2 hk)
  have H3 := Lib.hid h3; clear h3
  have HNIL := Lib.hid hnil; clear hnil
  have HDB := Lib.hid hdb; clear hdb
  clear h1 h2 d1 d2
  go_enter Try.func111, Try.ntmps111
  go_wp2_with (go_at_call 106; refine (reads_any H.out).mono ?_; rintro e w' ⟨rfl, rfl⟩)
  · go_ret
    obtain rfl : cap = k := by assumption
    have e : l.drop cap = [] := List.drop_eq_nil_of_le (by omega)
    exact END.out a 0 (by rw [e]; exact Bytes.nil _) (by omega) (by omega) (fun _ => rfl) HDB.out
  · go_ret
    exact END.out _ _ (H3.out.drop k) (by omega) (by omega) (fun h => by have := HNIL.out (by simpa using h); omega) (fun x hx => by
      cases a with
      | none => cases hx
      | some y =>
        simp at hx
        subst hx
        have := HDB.out y rfl
        unfold Addr.add
        split <;> exact this)
end Go.Proofs.Ytghadpihmhaepaa
/- Contract of pack.value: the number whose eight bytes they are. -/
namespace Go.Proofs.Ytghadpihmhaepaa
open Go.RowKit

theorem join_u64 (x c : Nat) (hx : x < 72057594037927936) (hc : c < 256) : bits .or .u64 (IntKind.u64.wrap ((x : Int) * 256)) (c : Int) = ((x * 256 + c : Nat) : Int) := by
  have e : IntKind.u64.wrap ((x : Int) * 256) = ((x * 256 : Nat) : Int) := by
    simp [IntKind.wrap, IntKind.bits, IntKind.signed]; omega
  rw [e, u64_or_nat _ _ (by omega) (by omega), nat_join 8 _ _ (by omega) (by omega)]
theorem join_u64_0 (c : Nat) (hc : c < 256) : bits .or .u64 0 (c : Int) = (c : Int) := by
  have := u64_or_nat 0 c (by omega) (by omega)
  simpa using this

set_option maxHeartbeats 4000000 in
theorem value_any (c0 c1 c2 c3 c4 c5 c6 c7 : Nat) (w : World) (h0 : c0 < 256) (h1 : c1 < 256) (h2 : c2 < 256) (h3 : c3 < 256) (h4 : c4 < 256) (h5 : c5 < 256) (h6 : c6 < 256) (h7 : c7 < 256) :
    Calls Try.prog 112 #[.agg #[.int .u8 c0, .int .u8 c1, .int .u8 c2, .int .u8 c3, .int .u8 c4, .int .u8 c5, .int .u8 c6, .int .u8 c7]] w
      fun e w' => e = .returned (.int .u64 (val [c0, c1, c2, c3, c4, c5, c6, c7] : Nat)) ∧ Below w.heap.size w w' := by
  have i0 : ∀ w, (Instr.index 147 (.agg #[.int .u8 c0, .int .u8 c1, .int .u8 c2, .int .u8 c3, .int .u8 c4, .int .u8 c5, .int .u8 c6, .int .u8 c7]) (.int .i64 0)).run Try.prog w = .ok (.int .u8 c0) w := fun _ => by kernel_rfl
  have i1 : ∀ w, (Instr.index 147 (.agg #[.int .u8 c0, .int .u8 c1, .int .u8 c2, .int .u8 c3, .int .u8 c4, .int .u8 c5, .int .u8 c6, .int .u8 c7]) (.int .i64 1)).run Try.prog w = .ok (.int .u8 c1) w := fun _ => by kernel_rfl
  have i2 : ∀ w, (Instr.index 147 (.agg #[.int .u8 c0, .int .u8 c1, .int .u8 c2, .int .u8 c3, .int .u8 c4, .int .u8 c5, .int .u8 c6, .int .u8 c7]) (.int .i64 2)).run Try.prog w = .ok (.int .u8 c2) w := fun _ => by kernel_rfl
  have i3 : ∀ w, (Instr.index 147 (.agg #[.int .u8 c0, .int .u8 c1, .int .u8 c2, .int .u8 c3, .int .u8 c4, .int .u8 c5, .int .u8 c6, .int .u8 c7]) (.int .i64 3)).run Try.prog w = .ok (.int .u8 c3) w := fun _ => by kernel_rfl
  have i4 : ∀ w, (Instr.index 147 (.agg #[.int .u8 c0, .int .u8 c1, .int .u8 c2, .int .u8 c3, .int .u8 c4, .int .u8 c5, .int .u8 c6, .int .u8 c7]) (.int .i64 4)).run Try.prog w = .ok (.int .u8 c4) w := fun _ => by kernel_rfl
  have i5 : ∀ w, (Instr.index 147 (.agg #[.int .u8 c0, .int .u8 c1, .int .u8 c2, .int .u8 c3, .int .u8 c4, .int .u8 c5, .int .u8 c6, .int .u8 c7]) (.int .i64 5)).run Try.prog w = .ok (.int .u8 c5) w := fun _ => by kernel_rfl
  have i6 : ∀ w, (Instr.index 147 (.agg #[.int .u8 c0, .int .u8 c1, .int .u8 c2, .int .u8 c3, .int .u8 c4, .int .u8 c5, .int .u8 c6, .int .u8 c7]) (.int .i64 6)).run Try.prog w = .ok (.int .u8 c6) w := fun _ => by kernel_rfl
  have i7 : ∀ w, (Instr.index 147 (.agg #[.int .u8 c0, .int .u8 c1, .int .u8 c2, .int .u8 c3, .int .u8 c4, .int .u8 c5, .int .u8 c6, .int .u8 c7]) (.int .i64 7)).run Try.prog w = .ok (.int .u8 c7) w := fun _ => by kernel_rfl
  have f0 := join_u64_0 c0 h0
  obtain ⟨x0, e0⟩ : ∃ x, x = c0 := ⟨_, rfl⟩
  have b0 : x0 < 256 := by omega
  replace f0 : bits .or .u64 0 (c0 : Int) = (x0 : Int) := by rw [f0, e0]
  obtain ⟨x1, e1⟩ : ∃ x, x = x0 * 256 + c1 := ⟨_, rfl⟩
  have b1 : x1 < 65536 := by omega
  have f1 := join_u64 x0 c1 (by omega) h1
  rw [← e1] at f1
  obtain ⟨x2, e2⟩ : ∃ x, x = x1 * 256 + c2 := ⟨_, rfl⟩
  have b2 : x2 < 16777216 := by omega
  have f2 := join_u64 x1 c2 (by omega) h2
  rw [← e2] at f2
  obtain ⟨x3, e3⟩ : ∃ x, x = x2 * 256 + c3 := ⟨_, rfl⟩
  have b3 : x3 < 4294967296 := by omega
  have f3 := join_u64 x2 c3 (by omega) h3
  rw [← e3] at f3
  obtain ⟨x4, e4⟩ : ∃ x, x = x3 * 256 + c4 := ⟨_, rfl⟩
  have b4 : x4 < 1099511627776 := by omega
  have f4 := join_u64 x3 c4 (by omega) h4
  rw [← e4] at f4
  obtain ⟨x5, e5⟩ : ∃ x, x = x4 * 256 + c5 := ⟨_, rfl⟩
  have b5 : x5 < 281474976710656 := by omega
  have f5 := join_u64 x4 c5 (by omega) h5
  rw [← e5] at f5
  obtain ⟨x6, e6⟩ : ∃ x, x = x5 * 256 + c6 := ⟨_, rfl⟩
  have b6 : x6 < 72057594037927936 := by omega
  have f6 := join_u64 x5 c6 (by omega) h6
  rw [← e6] at f6
  obtain ⟨x7, e7⟩ : ∃ x, x = x6 * 256 + c7 := ⟨_, rfl⟩
  have b7 : x7 < 18446744073709551616 := by omega
  have f7 := join_u64 x6 c7 (by omega) h7
  rw [← e7] at f7
  have E : Hid (val [c0, c1, c2, c3, c4, c5, c6, c7] = x7) := by
    show val [c0, c1, c2, c3, c4, c5, c6, c7] = x7
    simp only [val, List.foldl]; omega
  clear b0 b1 b2 b3 b4 b5 b6 b7
  clear e7 e6 e5 e4 e3 e2 e1 e0
  go_enter Try.func112, Try.ntmps112
  go_wp2
  refine wp_loop_rounds 9 ?_
  iterate 9 (rw [rounds_succ]; go_wp2)
  go_ret
  exact ⟨ret_same (by rw [E.out]), (Below.refl _ _).alloc (Nat.le_refl _) _⟩
end Go.Proofs.Ytghadpihmhaepaa
/- Contracts of Reader.number: the next bytes as a number, or what is thrown. -/
namespace Go.Proofs.Ytghadpihmhaepaa
open Go.RowKit

theorem Rdr.keep {w w' : World} {rb cb db : Nat} {l : List Nat} {S : List Nat} (h : Rdr w rb cb db l) (hf : Frm S w w') (hr : rb ∉ S) (hc : cb ∉ S) (hd : db ∉ S) : Rdr w' rb cb db l := by
  obtain ⟨a, cap, h1, h2, h3, h4, h5, h6, h7, h8, h9⟩ := h
  exact ⟨a, cap, hf.whole h1 hr, hf.whole h2 hc, hf.bytes h3 (fun x hx => by rw [h7 x hx]; exact hd), h4, h5, h6, h7, h8, h9⟩
theorem Thrown.early {w0 w w' : World} {rb cb : Nat} {c : Int} {e : Ending} (h : Thrown w rb cb c e w') (hf : Frm [rb] w0 w) : Thrown w0 rb cb c e w' :=
  ⟨h.1, h.2.1, hf.trans h.2.2 (by simp) (fun x hx => .inl hx)⟩
theorem Thrown.early0 {w0 w w' : World} {rb cb : Nat} {c : Int} {e : Ending} (h : Thrown w rb cb c e w') (hf : Frm [] w0 w) : Thrown w0 rb cb c e w' :=
  ⟨h.1, h.2.1, hf.trans h.2.2 (by simp) (fun x hx => .inl hx)⟩
theorem Rdr.lt {w : World} {rb cb db : Nat} {l : List Nat} (h : Rdr w rb cb db l) : rb < w.heap.size ∧ cb < w.heap.size := by
  obtain ⟨a, cap, h1, h2, _⟩ := h
  exact ⟨h1.lt, h2.lt⟩

set_option maxRecDepth 100000 in
set_option maxHeartbeats 1000000 in
theorem rnumber_short {w : World} {rb cb db : Nat} {l : List Nat} (k : Nat) (h : Rdr w rb cb db l) (hk : k = 1 ∨ k = 2 ∨ k = 4 ∨ k = 8) (hl : l.length < k) :
    Calls Try.prog 105 #[.pointer (some ⟨rb, 0, none⟩), .int .i64 k] w (Thrown w rb cb 4) := by
  have H := Lib.hid h; clear h
  have z0 : IntKind.i64.wrap 0 = 0 := rfl
  have z4 : IntKind.i64.wrap 4 = 4 := rfl
  have z6 : IntKind.i64.wrap 6 = 6 := rfl
  have z7 : IntKind.i64.wrap 7 = 7 := rfl
  have hf : Frm [] w ((w.alloc (.cells #[.int .u8 0, .int .u8 0, .int .u8 0, .int .u8 0, .int .u8 0, .int .u8 0, .int .u8 0, .int .u8 0] 147)).drew) := ((Frm.refl _ _).alloc _).drew
  have HF := Lib.hid hf; clear hf
  rcases hk with rfl | rfl | rfl | rfl
  all_goals
    go_enter Try.func105, Try.ntmps105
    go_wp2
    refine wp_region_any (by kernel_rfl) ?_
    change wpAny _ _ _ _ _ _ _ (World.drew _)
    refine wpAny_take (i := 0) (v := ?_) rfl (by kernel_rfl) (by kernel_rfl) (by kernel_rfl) (fun _ _ _ h => h) (Or.inl ⟨by rfl, ?_⟩) ?_
    rotate_left 1
    · intro w; go_simp; try with_reducible rfl
    refine wpAny_take (i := 1) (v := ?_) rfl (by kernel_rfl) (by kernel_rfl) (by kernel_rfl) (fun _ _ _ h => h) (Or.inl ⟨by rfl, ?_⟩) ?_
    rotate_left 1
    · intro w; go_simp; try with_reducible rfl
    refine wpAny_take (i := 2) (v := ?_) rfl (by kernel_rfl) (by kernel_rfl) (by kernel_rfl) (fun _ _ _ h => h) (Or.inl ⟨by rfl, ?_⟩) ?_
    rotate_left 1
    · intro w; go_simp; try with_reducible rfl
    refine wpAny_take (i := 3) (v := ?_) rfl (by kernel_rfl) (by kernel_rfl) (by kernel_rfl) (fun _ _ _ h => h) (Or.inl ⟨by rfl, ?_⟩) ?_
    rotate_left 1
    · intro w; go_simp; try with_reducible rfl
    refine wpAny_take (i := 4) (v := ?_) rfl (by kernel_rfl) (by kernel_rfl) (by kernel_rfl) (fun _ _ _ h => h) (Or.inl ⟨by rfl, ?_⟩) ?_
    rotate_left 1
    · intro w; go_simp; try with_reducible rfl
    refine wpAny_take (i := 5) (v := ?_) rfl (by kernel_rfl) (by kernel_rfl) (by kernel_rfl) (fun _ _ _ h => h) (Or.inl ⟨by rfl, ?_⟩) ?_
    rotate_left 1
    · intro w; go_simp; try with_reducible rfl
    refine wpAny_ready (rs := [6]) (by kernel_rfl) (by simp) ?_
    refine AllReady.cons rfl (fun K hK => ?_) AllReady.nil
    go_simp
    refine (take_short _ (H.out.keep HF.out (by simp) (by simp) (by simp)) hl (by omega)).mono ?_
    rintro e w' ⟨rfl, h1, h2⟩
    exact ⟨rfl, Thrown.early0 ⟨rfl, h1, h2⟩ HF.out⟩

/-- What a call that computes hands back, and what is left then. -/
def PkGot (w : World) (rb cb db : Nat) (l : List Nat) (k : Nat) (v : Value) (e : Ending) (w' : World) : Prop :=
  e = .returned v ∧ Rdr w' rb cb db (l.drop k) ∧ Frm [rb] w w'

/-- Eight zeros with k bytes laid over their end. -/
theorem splice_eight (k : Nat) (l : List Nat) (hk : k ≤ 8) (hl : l.length = k) : splice [u8v 0, u8v 0, u8v 0, u8v 0, u8v 0, u8v 0, u8v 0, u8v 0] (8 - k) (l.map u8v) = (List.replicate (8 - k) 0 ++ l).map u8v := by
  have e : [u8v 0, u8v 0, u8v 0, u8v 0, u8v 0, u8v 0, u8v 0, u8v 0] = List.replicate 8 (u8v 0) := rfl
  rw [e]
  unfold splice
  rw [List.take_replicate, List.drop_replicate, List.map_append, List.map_replicate, List.length_map, hl, show min (8 - k) 8 = 8 - k by omega, show 8 - (8 - k + k) = 0 by omega]
  simp
theorem eight_named (m : List Nat) (h : m.length = 8) : ∃ c0 c1 c2 c3 c4 c5 c6 c7 : Nat, m = [c0, c1, c2, c3, c4, c5, c6, c7] := by
  match m, h with
  | [c0, c1, c2, c3, c4, c5, c6, c7], _ => exact ⟨_, _, _, _, _, _, _, _, rfl⟩

theorem copy_side {w1 : World} {ta : Option Addr} {m : List Nat} (h : Bytes w1 ta m) (hpos : 0 < (m.map u8v).length) : ∃ ad, ta = some ad ∧ ∀ j v, (m.map u8v)[j]? = some v → w1.cell? (ad.add j) = some v := by
  rcases h.2.2 with h0 | ⟨b, off, ha, hc⟩
  · subst h0; simp at hpos
  · exact ⟨_, ha, Bytes.news hc⟩
theorem Frm.above {w w' : World} {B : Nat} (h : Below B w w') : Frm (List.range' B (w.heap.size - B)) w w' :=
  ⟨h.os, h.tape, h.output, h.size, fun k hk hn => h.block k (by
    rcases Nat.lt_or_ge k B with h1 | h1
    · exact h1
    · exact absurd (List.mem_range'_1.2 ⟨h1, by omega⟩) hn)⟩
/-- Behind the copy and the reckoning: what is left. -/
theorem got_end {w w0 w1 w2 w3 : World} {rb cb db : Nat} {l : List Nat} {k : Nat} {v : Value} (hlt : rb < w.heap.size ∧ cb < w.heap.size) (hdb : db < w.heap.size)
    (h0 : Frm [] w w0) (hr : Rdr w1 rb cb db (l.drop k)) (h1 : Frm [rb] w0 w1) (h2 : Below w.heap.size w1 w2) (h3 : Below w2.heap.size w2 w3) : PkGot w rb cb db l k v (.returned v) w3 := by
  have h2' := Frm.above h2
  have nm : ∀ x, x < w.heap.size → x ∉ List.range' w.heap.size (w1.heap.size - w.heap.size) := fun x hx hm => by
    have := (List.mem_range'_1.1 hm).1; omega
  refine ⟨rfl, (hr.keep h2' (nm _ hlt.1) (nm _ hlt.2) (nm _ hdb)).keep (Frm.ofBelow h3) (by simp) (by simp) (by simp), ?_⟩
  have a := (h0.trans h1 (U := [rb]) (by simp) (fun x hx => .inl hx))
  have b := a.trans h2' (U := [rb]) (fun x hx => hx) (fun x hx => .inr (List.mem_range'_1.1 hx).1)
  exact b.trans (Frm.ofBelow h3) (fun x hx => hx) (by simp)

set_option maxRecDepth 100000 in
set_option maxHeartbeats 2000000 in
theorem rnumber_ok1 {w : World} {rb cb db : Nat} {l : List Nat} (h : Rdr w rb cb db l) (hl : 1 ≤ l.length) (hdb : db < w.heap.size) :
    Calls Try.prog 105 #[.pointer (some ⟨rb, 0, none⟩), .int .i64 1] w (PkGot w rb cb db l 1 (.int .u64 (val (l.take 1) : Nat))) := by
  have hlt := h.lt
  have hm8 : ∀ c ∈ List.replicate (8 - 1) 0 ++ l.take 1, c < 256 := by
    obtain ⟨a, cap, _, _, h3, _⟩ := h
    intro c hc
    rcases List.mem_append.1 hc with h | h
    · have := (List.mem_replicate.1 h).2; omega
    · exact h3.1 c (List.mem_of_mem_take h)
  obtain ⟨c0, c1, c2, c3, c4, c5, c6, c7, hc⟩ := eight_named (List.replicate (8 - 1) 0 ++ l.take 1) (by simp; omega)
  have hv : val [c0, c1, c2, c3, c4, c5, c6, c7] = val (l.take 1) := by rw [← hc, val_zeros]
  have hsp := splice_eight 1 (l.take 1) (by omega) (by simp; omega)
  rw [hc] at hm8 hsp
  obtain ⟨cs, hcs⟩ : ∃ cs, cs = (l.take 1).map u8v := ⟨_, rfl⟩
  have hcl : cs.length = 1 := by rw [hcs]; simp; omega
  have hc1 : ∀ v ∈ cs, v.oneCell' = true := by rw [hcs]; exact u8v_one _
  rw [← hcs] at hsp
  have HSP := Lib.hid hsp; clear hsp
  have HV := Lib.hid hv; clear hv
  have HC8 := Lib.hid hm8; clear hm8
  have HCS := Lib.hid hcs; clear hcs
  have HCL := Lib.hid hcl; clear hcl
  have HC1 := Lib.hid hc1; clear hc1
  clear hc
  have H := Lib.hid h; clear h
  have z7 : IntKind.i64.wrap 7 = 7 := rfl
  have hf : Frm [] w ((w.alloc (.cells #[.int .u8 0, .int .u8 0, .int .u8 0, .int .u8 0, .int .u8 0, .int .u8 0, .int .u8 0, .int .u8 0] 147)).drew) := ((Frm.refl _ _).alloc _).drew
  have HW := Lib.hid (Whole.made w 147 #[.int .u8 0, .int .u8 0, .int .u8 0, .int .u8 0, .int .u8 0, .int .u8 0, .int .u8 0, .int .u8 0])
  have HF := Lib.hid hf; clear hf
  have HLT := Lib.hid hlt; clear hlt
  have HG : Hid (∀ w1, Frm [rb] (w.alloc (.cells #[.int .u8 0, .int .u8 0, .int .u8 0, .int .u8 0, .int .u8 0, .int .u8 0, .int .u8 0, .int .u8 0] 147)).drew w1 → w1.heap[w.heap.size]? = some (.cells [u8v 0, u8v 0, u8v 0, u8v 0, u8v 0, u8v 0, u8v 0, u8v 0].toArray 147 (0, 0))) := by
    intro w1 h1
    exact h1.whole (show Whole _ _ _ _ from HW.out) (by have := HLT.out.1; simp; omega)
  go_enter Try.func105, Try.ntmps105
  go_wp2
  go_region_law (first | (refine step_copy_splice rfl (.tmp 8) (.tmp 12) 22 22 rfl 5 Try.underlying22 (by kernel_rfl) _ ta 1 _ 1 _ rfl rfl w.heap.size (8 - 1) [u8v 0, u8v 0, u8v 0, u8v 0, u8v 0, u8v 0, u8v 0, u8v 0] 147 (HG.out _ HT.out.2.2.2.2.2.2) cs HCL.out (fun hp => ⟨rfl, by rw [HCS.out] at hp ⊢; exact copy_side HT.out.1 hp⟩) (by rw [HCL.out]; decide) HC1.out w.heap.size w1 (Below.refl _ _) (Nat.le_refl _) ?_; intro w2 hw2 hb2; have HB2 := Lib.hid hb2; clear hb2) | (go_simp; go_at_call 111; refine (take_ok _ (H.out.keep HF.out (by simp) (by simp) (by simp)) hl).mono ?_; rintro e w1 ⟨ta, tcap, rfl, ht⟩; have HT := Lib.hid ht; clear ht))
  have hrow : w2.heap[w.heap.size]? = some (.cells #[.int .u8 c0, .int .u8 c1, .int .u8 c2, .int .u8 c3, .int .u8 c4, .int .u8 c5, .int .u8 c6, .int .u8 c7] 147 (0, 0)) := by
    have := hw2.out
    rw [HSP.out] at this
    exact this
  have HROW := Lib.hid hrow; clear hrow
  clear hw2
  go_wp2_with (refine wpList_load_row rfl 147 (.tmp 5) rfl w.heap.size rfl 147 _ (0, 0) _ HROW.out Try.underlying147 rfl (by kernel_rfl) ?_)
  refine (value_any c0 c1 c2 c3 c4 c5 c6 c7 _ (HC8.out _ (by simp)) (HC8.out _ (by simp)) (HC8.out _ (by simp)) (HC8.out _ (by simp)) (HC8.out _ (by simp)) (HC8.out _ (by simp)) (HC8.out _ (by simp)) (HC8.out _ (by simp))).mono ?_
  rintro e w3 ⟨rfl, hb3⟩
  have HB3 := Lib.hid hb3; clear hb3
  go_wp2
  go_ret
  have := HV.out
  rw [← this]
  exact got_end HLT.out hdb HF.out HT.out.2.2.2.2.2.1 HT.out.2.2.2.2.2.2 HB2.out HB3.out

set_option maxRecDepth 100000 in
set_option maxHeartbeats 2000000 in
theorem rnumber_ok2 {w : World} {rb cb db : Nat} {l : List Nat} (h : Rdr w rb cb db l) (hl : 2 ≤ l.length) (hdb : db < w.heap.size) :
    Calls Try.prog 105 #[.pointer (some ⟨rb, 0, none⟩), .int .i64 2] w (PkGot w rb cb db l 2 (.int .u64 (val (l.take 2) : Nat))) := by
  have hlt := h.lt
  have hm8 : ∀ c ∈ List.replicate (8 - 2) 0 ++ l.take 2, c < 256 := by
    obtain ⟨a, cap, _, _, h3, _⟩ := h
    intro c hc
    rcases List.mem_append.1 hc with h | h
    · have := (List.mem_replicate.1 h).2; omega
    · exact h3.1 c (List.mem_of_mem_take h)
  obtain ⟨c0, c1, c2, c3, c4, c5, c6, c7, hc⟩ := eight_named (List.replicate (8 - 2) 0 ++ l.take 2) (by simp; omega)
  have hv : val [c0, c1, c2, c3, c4, c5, c6, c7] = val (l.take 2) := by rw [← hc, val_zeros]
  have hsp := splice_eight 2 (l.take 2) (by omega) (by simp; omega)
  rw [hc] at hm8 hsp
  obtain ⟨cs, hcs⟩ : ∃ cs, cs = (l.take 2).map u8v := ⟨_, rfl⟩
  have hcl : cs.length = 2 := by rw [hcs]; simp; omega
  have hc1 : ∀ v ∈ cs, v.oneCell' = true := by rw [hcs]; exact u8v_one _
  rw [← hcs] at hsp
  have HSP := Lib.hid hsp; clear hsp
  have HV := Lib.hid hv; clear hv
  have HC8 := Lib.hid hm8; clear hm8
  have HCS := Lib.hid hcs; clear hcs
  have HCL := Lib.hid hcl; clear hcl
  have HC1 := Lib.hid hc1; clear hc1
  clear hc
  have H := Lib.hid h; clear h
  have z7 : IntKind.i64.wrap 6 = 6 := rfl
  have hf : Frm [] w ((w.alloc (.cells #[.int .u8 0, .int .u8 0, .int .u8 0, .int .u8 0, .int .u8 0, .int .u8 0, .int .u8 0, .int .u8 0] 147)).drew) := ((Frm.refl _ _).alloc _).drew
  have HW := Lib.hid (Whole.made w 147 #[.int .u8 0, .int .u8 0, .int .u8 0, .int .u8 0, .int .u8 0, .int .u8 0, .int .u8 0, .int .u8 0])
  have HF := Lib.hid hf; clear hf
  have HLT := Lib.hid hlt; clear hlt
  have HG : Hid (∀ w1, Frm [rb] (w.alloc (.cells #[.int .u8 0, .int .u8 0, .int .u8 0, .int .u8 0, .int .u8 0, .int .u8 0, .int .u8 0, .int .u8 0] 147)).drew w1 → w1.heap[w.heap.size]? = some (.cells [u8v 0, u8v 0, u8v 0, u8v 0, u8v 0, u8v 0, u8v 0, u8v 0].toArray 147 (0, 0))) := by
    intro w1 h1
    exact h1.whole (show Whole _ _ _ _ from HW.out) (by have := HLT.out.1; simp; omega)
  go_enter Try.func105, Try.ntmps105
  go_wp2
  go_region_law (first | (refine step_copy_splice rfl (.tmp 8) (.tmp 12) 22 22 rfl 5 Try.underlying22 (by kernel_rfl) _ ta 2 _ 2 _ rfl rfl w.heap.size (8 - 2) [u8v 0, u8v 0, u8v 0, u8v 0, u8v 0, u8v 0, u8v 0, u8v 0] 147 (HG.out _ HT.out.2.2.2.2.2.2) cs HCL.out (fun hp => ⟨rfl, by rw [HCS.out] at hp ⊢; exact copy_side HT.out.1 hp⟩) (by rw [HCL.out]; decide) HC1.out w.heap.size w1 (Below.refl _ _) (Nat.le_refl _) ?_; intro w2 hw2 hb2; have HB2 := Lib.hid hb2; clear hb2) | (go_simp; go_at_call 111; refine (take_ok _ (H.out.keep HF.out (by simp) (by simp) (by simp)) hl).mono ?_; rintro e w1 ⟨ta, tcap, rfl, ht⟩; have HT := Lib.hid ht; clear ht))
  have hrow : w2.heap[w.heap.size]? = some (.cells #[.int .u8 c0, .int .u8 c1, .int .u8 c2, .int .u8 c3, .int .u8 c4, .int .u8 c5, .int .u8 c6, .int .u8 c7] 147 (0, 0)) := by
    have := hw2.out
    rw [HSP.out] at this
    exact this
  have HROW := Lib.hid hrow; clear hrow
  clear hw2
  go_wp2_with (refine wpList_load_row rfl 147 (.tmp 5) rfl w.heap.size rfl 147 _ (0, 0) _ HROW.out Try.underlying147 rfl (by kernel_rfl) ?_)
  refine (value_any c0 c1 c2 c3 c4 c5 c6 c7 _ (HC8.out _ (by simp)) (HC8.out _ (by simp)) (HC8.out _ (by simp)) (HC8.out _ (by simp)) (HC8.out _ (by simp)) (HC8.out _ (by simp)) (HC8.out _ (by simp)) (HC8.out _ (by simp))).mono ?_
  rintro e w3 ⟨rfl, hb3⟩
  have HB3 := Lib.hid hb3; clear hb3
  go_wp2
  go_ret
  have := HV.out
  rw [← this]
  exact got_end HLT.out hdb HF.out HT.out.2.2.2.2.2.1 HT.out.2.2.2.2.2.2 HB2.out HB3.out

set_option maxRecDepth 100000 in
set_option maxHeartbeats 2000000 in
theorem rnumber_ok4 {w : World} {rb cb db : Nat} {l : List Nat} (h : Rdr w rb cb db l) (hl : 4 ≤ l.length) (hdb : db < w.heap.size) :
    Calls Try.prog 105 #[.pointer (some ⟨rb, 0, none⟩), .int .i64 4] w (PkGot w rb cb db l 4 (.int .u64 (val (l.take 4) : Nat))) := by
  have hlt := h.lt
  have hm8 : ∀ c ∈ List.replicate (8 - 4) 0 ++ l.take 4, c < 256 := by
    obtain ⟨a, cap, _, _, h3, _⟩ := h
    intro c hc
    rcases List.mem_append.1 hc with h | h
    · have := (List.mem_replicate.1 h).2; omega
    · exact h3.1 c (List.mem_of_mem_take h)
  obtain ⟨c0, c1, c2, c3, c4, c5, c6, c7, hc⟩ := eight_named (List.replicate (8 - 4) 0 ++ l.take 4) (by simp; omega)
  have hv : val [c0, c1, c2, c3, c4, c5, c6, c7] = val (l.take 4) := by rw [← hc, val_zeros]
  have hsp := splice_eight 4 (l.take 4) (by omega) (by simp; omega)
  rw [hc] at hm8 hsp
  obtain ⟨cs, hcs⟩ : ∃ cs, cs = (l.take 4).map u8v := ⟨_, rfl⟩
  have hcl : cs.length = 4 := by rw [hcs]; simp; omega
  have hc1 : ∀ v ∈ cs, v.oneCell' = true := by rw [hcs]; exact u8v_one _
  rw [← hcs] at hsp
  have HSP := Lib.hid hsp; clear hsp
  have HV := Lib.hid hv; clear hv
  have HC8 := Lib.hid hm8; clear hm8
  have HCS := Lib.hid hcs; clear hcs
  have HCL := Lib.hid hcl; clear hcl
  have HC1 := Lib.hid hc1; clear hc1
  clear hc
  have H := Lib.hid h; clear h
  have z7 : IntKind.i64.wrap 4 = 4 := rfl
  have hf : Frm [] w ((w.alloc (.cells #[.int .u8 0, .int .u8 0, .int .u8 0, .int .u8 0, .int .u8 0, .int .u8 0, .int .u8 0, .int .u8 0] 147)).drew) := ((Frm.refl _ _).alloc _).drew
  have HW := Lib.hid (Whole.made w 147 #[.int .u8 0, .int .u8 0, .int .u8 0, .int .u8 0, .int .u8 0, .int .u8 0, .int .u8 0, .int .u8 0])
  have HF := Lib.hid hf; clear hf
  have HLT := Lib.hid hlt; clear hlt
  have HG : Hid (∀ w1, Frm [rb] (w.alloc (.cells #[.int .u8 0, .int .u8 0, .int .u8 0, .int .u8 0, .int .u8 0, .int .u8 0, .int .u8 0, .int .u8 0] 147)).drew w1 → w1.heap[w.heap.size]? = some (.cells [u8v 0, u8v 0, u8v 0, u8v 0, u8v 0, u8v 0, u8v 0, u8v 0].toArray 147 (0, 0))) := by
    intro w1 h1
    exact h1.whole (show Whole _ _ _ _ from HW.out) (by have := HLT.out.1; simp; omega)
  go_enter Try.func105, Try.ntmps105
  go_wp2
  go_region_law (first | (refine step_copy_splice rfl (.tmp 8) (.tmp 12) 22 22 rfl 5 Try.underlying22 (by kernel_rfl) _ ta 4 _ 4 _ rfl rfl w.heap.size (8 - 4) [u8v 0, u8v 0, u8v 0, u8v 0, u8v 0, u8v 0, u8v 0, u8v 0] 147 (HG.out _ HT.out.2.2.2.2.2.2) cs HCL.out (fun hp => ⟨rfl, by rw [HCS.out] at hp ⊢; exact copy_side HT.out.1 hp⟩) (by rw [HCL.out]; decide) HC1.out w.heap.size w1 (Below.refl _ _) (Nat.le_refl _) ?_; intro w2 hw2 hb2; have HB2 := Lib.hid hb2; clear hb2) | (go_simp; go_at_call 111; refine (take_ok _ (H.out.keep HF.out (by simp) (by simp) (by simp)) hl).mono ?_; rintro e w1 ⟨ta, tcap, rfl, ht⟩; have HT := Lib.hid ht; clear ht))
  have hrow : w2.heap[w.heap.size]? = some (.cells #[.int .u8 c0, .int .u8 c1, .int .u8 c2, .int .u8 c3, .int .u8 c4, .int .u8 c5, .int .u8 c6, .int .u8 c7] 147 (0, 0)) := by
    have := hw2.out
    rw [HSP.out] at this
    exact this
  have HROW := Lib.hid hrow; clear hrow
  clear hw2
  go_wp2_with (refine wpList_load_row rfl 147 (.tmp 5) rfl w.heap.size rfl 147 _ (0, 0) _ HROW.out Try.underlying147 rfl (by kernel_rfl) ?_)
  refine (value_any c0 c1 c2 c3 c4 c5 c6 c7 _ (HC8.out _ (by simp)) (HC8.out _ (by simp)) (HC8.out _ (by simp)) (HC8.out _ (by simp)) (HC8.out _ (by simp)) (HC8.out _ (by simp)) (HC8.out _ (by simp)) (HC8.out _ (by simp))).mono ?_
  rintro e w3 ⟨rfl, hb3⟩
  have HB3 := Lib.hid hb3; clear hb3
  go_wp2
  go_ret
  have := HV.out
  rw [← this]
  exact got_end HLT.out hdb HF.out HT.out.2.2.2.2.2.1 HT.out.2.2.2.2.2.2 HB2.out HB3.out

set_option maxRecDepth 100000 in
set_option maxHeartbeats 2000000 in
theorem rnumber_ok8 {w : World} {rb cb db : Nat} {l : List Nat} (h : Rdr w rb cb db l) (hl : 8 ≤ l.length) (hdb : db < w.heap.size) :
    Calls Try.prog 105 #[.pointer (some ⟨rb, 0, none⟩), .int .i64 8] w (PkGot w rb cb db l 8 (.int .u64 (val (l.take 8) : Nat))) := by
  have hlt := h.lt
  have hm8 : ∀ c ∈ List.replicate (8 - 8) 0 ++ l.take 8, c < 256 := by
    obtain ⟨a, cap, _, _, h3, _⟩ := h
    intro c hc
    rcases List.mem_append.1 hc with h | h
    · have := (List.mem_replicate.1 h).2; omega
    · exact h3.1 c (List.mem_of_mem_take h)
  obtain ⟨c0, c1, c2, c3, c4, c5, c6, c7, hc⟩ := eight_named (List.replicate (8 - 8) 0 ++ l.take 8) (by simp; omega)
  have hv : val [c0, c1, c2, c3, c4, c5, c6, c7] = val (l.take 8) := by rw [← hc, val_zeros]
  have hsp := splice_eight 8 (l.take 8) (by omega) (by simp; omega)
  rw [hc] at hm8 hsp
  obtain ⟨cs, hcs⟩ : ∃ cs, cs = (l.take 8).map u8v := ⟨_, rfl⟩
  have hcl : cs.length = 8 := by rw [hcs]; simp; omega
  have hc1 : ∀ v ∈ cs, v.oneCell' = true := by rw [hcs]; exact u8v_one _
  rw [← hcs] at hsp
  have HSP := Lib.hid hsp; clear hsp
  have HV := Lib.hid hv; clear hv
  have HC8 := Lib.hid hm8; clear hm8
  have HCS := Lib.hid hcs; clear hcs
  have HCL := Lib.hid hcl; clear hcl
  have HC1 := Lib.hid hc1; clear hc1
  clear hc
  have H := Lib.hid h; clear h
  have z7 : IntKind.i64.wrap 0 = 0 := rfl
  have hf : Frm [] w ((w.alloc (.cells #[.int .u8 0, .int .u8 0, .int .u8 0, .int .u8 0, .int .u8 0, .int .u8 0, .int .u8 0, .int .u8 0] 147)).drew) := ((Frm.refl _ _).alloc _).drew
  have HW := Lib.hid (Whole.made w 147 #[.int .u8 0, .int .u8 0, .int .u8 0, .int .u8 0, .int .u8 0, .int .u8 0, .int .u8 0, .int .u8 0])
  have HF := Lib.hid hf; clear hf
  have HLT := Lib.hid hlt; clear hlt
  have HG : Hid (∀ w1, Frm [rb] (w.alloc (.cells #[.int .u8 0, .int .u8 0, .int .u8 0, .int .u8 0, .int .u8 0, .int .u8 0, .int .u8 0, .int .u8 0] 147)).drew w1 → w1.heap[w.heap.size]? = some (.cells [u8v 0, u8v 0, u8v 0, u8v 0, u8v 0, u8v 0, u8v 0, u8v 0].toArray 147 (0, 0))) := by
    intro w1 h1
    exact h1.whole (show Whole _ _ _ _ from HW.out) (by have := HLT.out.1; simp; omega)
  go_enter Try.func105, Try.ntmps105
  go_wp2
  go_region_law (first | (refine step_copy_splice rfl (.tmp 8) (.tmp 12) 22 22 rfl 5 Try.underlying22 (by kernel_rfl) _ ta 8 _ 8 _ rfl rfl w.heap.size (8 - 8) [u8v 0, u8v 0, u8v 0, u8v 0, u8v 0, u8v 0, u8v 0, u8v 0] 147 (HG.out _ HT.out.2.2.2.2.2.2) cs HCL.out (fun hp => ⟨rfl, by rw [HCS.out] at hp ⊢; exact copy_side HT.out.1 hp⟩) (by rw [HCL.out]; decide) HC1.out w.heap.size w1 (Below.refl _ _) (Nat.le_refl _) ?_; intro w2 hw2 hb2; have HB2 := Lib.hid hb2; clear hb2) | (go_simp; go_at_call 111; refine (take_ok _ (H.out.keep HF.out (by simp) (by simp) (by simp)) hl).mono ?_; rintro e w1 ⟨ta, tcap, rfl, ht⟩; have HT := Lib.hid ht; clear ht))
  have hrow : w2.heap[w.heap.size]? = some (.cells #[.int .u8 c0, .int .u8 c1, .int .u8 c2, .int .u8 c3, .int .u8 c4, .int .u8 c5, .int .u8 c6, .int .u8 c7] 147 (0, 0)) := by
    have := hw2.out
    rw [HSP.out] at this
    exact this
  have HROW := Lib.hid hrow; clear hrow
  clear hw2
  go_wp2_with (refine wpList_load_row rfl 147 (.tmp 5) rfl w.heap.size rfl 147 _ (0, 0) _ HROW.out Try.underlying147 rfl (by kernel_rfl) ?_)
  refine (value_any c0 c1 c2 c3 c4 c5 c6 c7 _ (HC8.out _ (by simp)) (HC8.out _ (by simp)) (HC8.out _ (by simp)) (HC8.out _ (by simp)) (HC8.out _ (by simp)) (HC8.out _ (by simp)) (HC8.out _ (by simp)) (HC8.out _ (by simp))).mono ?_
  rintro e w3 ⟨rfl, hb3⟩
  have HB3 := Lib.hid hb3; clear hb3
  go_wp2
  go_ret
  have := HV.out
  rw [← this]
  exact got_end HLT.out hdb HF.out HT.out.2.2.2.2.2.1 HT.out.2.2.2.2.2.2 HB2.out HB3.out

theorem rnumber_ok {w : World} {rb cb db : Nat} {l : List Nat} (k : Nat) (h : Rdr w rb cb db l) (hk : k = 1 ∨ k = 2 ∨ k = 4 ∨ k = 8) (hl : k ≤ l.length) (hdb : db < w.heap.size) :
    Calls Try.prog 105 #[.pointer (some ⟨rb, 0, none⟩), .int .i64 k] w (PkGot w rb cb db l k (.int .u64 (val (l.take k) : Nat))) := by
  rcases hk with rfl | rfl | rfl | rfl
  · exact rnumber_ok1 h hl hdb
  · exact rnumber_ok2 h hl hdb
  · exact rnumber_ok4 h hl hdb
  · exact rnumber_ok8 h hl hdb
end Go.Proofs.Ytghadpihmhaepaa
/- Contracts of Reader.U8, U16, U32, U64, counted, Bytes. -/
namespace Go.Proofs.Ytghadpihmhaepaa
open Go.RowKit

theorem Rdr.h8 {w : World} {rb cb db : Nat} {l : List Nat} (h : Rdr w rb cb db l) : ∀ c ∈ l, c < 256 := by
  obtain ⟨a, cap, _, _, h3, _⟩ := h
  exact h3.1
theorem Rdr.fits {w : World} {rb cb db : Nat} {l : List Nat} (h : Rdr w rb cb db l) : l.length ≤ 9223372036854775807 := by
  obtain ⟨a, cap, _, _, h3, _⟩ := h
  exact h3.2.1
theorem val_take_lt {w : World} {rb cb db : Nat} {l : List Nat} (h : Rdr w rb cb db l) (k : Nat) (hk : k ≤ l.length) : val (l.take k) < 256 ^ k := by
  have := val_lt (l.take k) (fun c hc => h.h8 c (List.mem_of_mem_take hc))
  rwa [List.length_take, Nat.min_eq_left hk] at this

theorem ru16_ok {w : World} {rb cb db : Nat} {l : List Nat} (h : Rdr w rb cb db l) (hl : 2 ≤ l.length) (hdb : db < w.heap.size) :
    Calls Try.prog 88 #[.pointer (some ⟨rb, 0, none⟩)] w (PkGot w rb cb db l 2 (.int .u16 (val (l.take 2) : Nat))) := by
  have hv : val (l.take 2) < 65536 := val_take_lt h 2 hl
  have HN := Lib.hid (rnumber_ok 2 h (by omega) hl hdb)
  clear h
  obtain ⟨v, hve⟩ : ∃ v, v = val (l.take 2) := ⟨_, rfl⟩
  rw [← hve] at hv HN ⊢
  have HVE := Lib.hid hve; clear hve
  go_enter Try.func88, Try.ntmps88
  go_wp2_with fail
  refine HN.out.mono ?_
  rintro e w' ⟨rfl, hr, hf⟩
  have HR := Lib.hid hr; clear hr
  go_wp2
  go_ret
  exact ⟨rfl, HR.out, hf⟩
theorem ru16_short {w : World} {rb cb db : Nat} {l : List Nat} (h : Rdr w rb cb db l) (hl : l.length < 2) :
    Calls Try.prog 88 #[.pointer (some ⟨rb, 0, none⟩)] w (Thrown w rb cb 4) := by
  have HN := Lib.hid (rnumber_short 2 h (by omega) hl)
  clear h
  go_enter Try.func88, Try.ntmps88
  go_wp2_with fail
  refine HN.out.mono ?_
  rintro e w' ⟨rfl, h1, h2⟩
  exact ⟨rfl, rfl, h1, h2⟩

theorem ru64_ok {w : World} {rb cb db : Nat} {l : List Nat} (h : Rdr w rb cb db l) (hl : 8 ≤ l.length) (hdb : db < w.heap.size) :
    Calls Try.prog 87 #[.pointer (some ⟨rb, 0, none⟩)] w (PkGot w rb cb db l 8 (.int .u64 (val (l.take 8) : Nat))) := by
  have hv : val (l.take 8) < 18446744073709551616 := val_take_lt h 8 hl
  have HN := Lib.hid (rnumber_ok 8 h (by omega) hl hdb)
  clear h
  obtain ⟨v, hve⟩ : ∃ v, v = val (l.take 8) := ⟨_, rfl⟩
  rw [← hve] at hv HN ⊢
  have HVE := Lib.hid hve; clear hve
  go_enter Try.func87, Try.ntmps87
  go_wp2_with fail
  refine HN.out.mono ?_
  rintro e w' ⟨rfl, hr, hf⟩
  have HR := Lib.hid hr; clear hr
  go_wp2
  go_ret
  exact ⟨rfl, HR.out, hf⟩
theorem ru64_short {w : World} {rb cb db : Nat} {l : List Nat} (h : Rdr w rb cb db l) (hl : l.length < 8) :
    Calls Try.prog 87 #[.pointer (some ⟨rb, 0, none⟩)] w (Thrown w rb cb 4) := by
  have HN := Lib.hid (rnumber_short 8 h (by omega) hl)
  clear h
  go_enter Try.func87, Try.ntmps87
  go_wp2_with fail
  refine HN.out.mono ?_
  rintro e w' ⟨rfl, h1, h2⟩
  exact ⟨rfl, rfl, h1, h2⟩

/-- What a counted call takes. -/
def Counted (w : World) (rb cb db : Nat) (l : List Nat) (n : Nat) (e : Ending) (w' : World) : Prop :=
  ∃ a cap, e = .returned (.slice a n cap) ∧ Bytes w' a ((l.drop 4).take n) ∧ n ≤ cap ∧ cap ≤ 9223372036854775807 ∧ (a = none → cap = 0) ∧ (∀ x, a = some x → x.block = db) ∧ Rdr w' rb cb db (l.drop (4 + n)) ∧ Frm [rb] w w'
/-- What Bytes hands back. -/
def GotBytes (w : World) (rb cb db : Nat) (l : List Nat) (n : Nat) (e : Ending) (w' : World) : Prop :=
  ∃ a cap, e = .returned (.slice a n cap) ∧ Bytes w' a ((l.drop 4).take n) ∧ (a = none → cap = 0) ∧ Rdr w' rb cb db (l.drop (4 + n)) ∧ Frm [rb] w w'
end Go.Proofs.Ytghadpihmhaepaa
/- Contracts of Read's deferred closure, by how Read is left. -/
namespace Go.Proofs.Ytghadpihmhaepaa
open Go.RowKit

theorem neq_same {P : Program} (w : World) {tp te : TypeId} {j : TypeInfo} (a : Addr) (hp : P.underlying tp = some (.pointer te)) (hte : P.info? te = some j) :
    (binOp .neq tp (.pointer (some a)) (.pointer (some a))).run P w = .ok (.bool false) w := by
  have h : ∀ d : Nat, (Op.equalIn (d + 1) tp (.pointer (some a)) (.pointer (some a))).run P w = .ok true w := fun d => by
    simp [Op.equalIn, run_underlying hp, sizeOf, typeInfo, hte, run_sameAddr_same]
  simp only [binOp]
  simp [Op.equal, Op.maxDepth, h 9999]
theorem call_info : ∃ j, Try.prog.info? 125 = some j := by
  have h : (Try.prog.info? 125).isSome = true := by kernel_rfl
  exact Option.isSome_iff_exists.1 h
theorem neq_call (a : Addr) (w : World) : (binOp .neq 123 (.pointer (some a)) (.pointer (some a))).run Try.prog w = .ok (.bool false) w := by
  obtain ⟨j, hj⟩ := call_info
  exact neq_same w a Try.underlying123 hj
theorem as_call (v : Option Addr) (w : World) : (Instr.typeAssert (.iface 123 (.pointer v)) 20 123 true).run Try.prog w = .ok (.tuple #[.pointer v, .bool true]) w := by kernel_rfl
theorem as_call_int (n : Int) (w : World) : (Instr.typeAssert (.iface 3 (.int .i64 n)) 20 123 true).run Try.prog w = .ok (.tuple #[.pointer none, .bool false]) w := by kernel_rfl

theorem d_idle (ob cb eb : Nat) (code : Int) (w : World) (ho : Whole w ob 123 #[.pointer (some ⟨cb, 0, none⟩)]) (hc : Whole w cb 125 #[.bool false, .int .i64 code]) :
    CallsD Try.prog 85 #[.pointer (some ⟨ob, 0, none⟩), .pointer (some ⟨eb, 0, none⟩)] .returning w fun e u' w' =>
      e = .returned (.tuple #[]) ∧ u' = .returning ∧ w' = w.setCell ⟨cb, 0, none⟩ (.bool true) := by
  have hne : ob ≠ cb := ho.ne hc (by decide)
  have c0 := ho.cell 0
  have c1 := hc.cell 0
  have f1 := hc.free 0
  have c2 := (ho.other (p := ⟨cb, 0, none⟩) hne (.bool true)).cell 0
  have c3 := (hc.put 0 (.bool true)).cell 1
  simp at c0 c1 c2 c3
  clear ho hc
  refine callsD_of_wpS Try.func85 rfl fun c₀ cs hu => ?_
  simp only [Try.ntmps85, List.size_toArray, List.length_cons, List.length_nil, Nat.reduceAdd, Nat.reduceSub, Array.replicate_succ, Array.replicate_zero, List.push_toArray, List.append_toArray, List.nil_append, List.cons_append]
  apply wpS_seq
  refine wpS_of_wp ?_
  go_wp2
  show Code.wpS _ _ _ _ _ _
  apply wpS_seq
  apply wpS_region
  simp [wpOpsS, go_sem, recoverD, hu, Exit.thenS]
  refine wpS_of_wp ?_
  go_wp2
  cases c₀
  simp_all [bodyPostS, results, Try.results85]

theorem d_own (ob cb eb : Nat) (code x : Int) (older : List PanicEntry) (w : World) (ho : Whole w ob 123 #[.pointer (some ⟨cb, 0, none⟩)]) (hc : Whole w cb 125 #[.bool false, .int .i64 code]) (he : Whole w eb 34 #[.int .i64 x]) :
    CallsD Try.prog 85 #[.pointer (some ⟨ob, 0, none⟩), .pointer (some ⟨eb, 0, none⟩)] (.panicking ({ v := .iface 123 (.pointer (some ⟨cb, 0, none⟩)), recovered := false } :: older)) w fun e u' w' =>
      e = .returned (.tuple #[]) ∧ u' = .panicking ({ v := .iface 123 (.pointer (some ⟨cb, 0, none⟩)), recovered := true } :: older) ∧ w' = (w.setCell ⟨cb, 0, none⟩ (.bool true)).setCell ⟨eb, 0, none⟩ (.int .i64 code) := by
  have hne : ob ≠ cb := ho.ne hc (by decide)
  have hne2 : eb ≠ cb := he.ne hc (by decide)
  have e0 := (he.other (p := ⟨cb, 0, none⟩) hne2 (.bool true)).cell 0
  have e1 := (he.other (p := ⟨cb, 0, none⟩) hne2 (.bool true)).free 0
  simp at e0
  clear he
  have ta := as_call
  have ta2 := as_call_int
  have tn := neq_call
  have c0 := ho.cell 0
  have c1 := hc.cell 0
  have f1 := hc.free 0
  have c2 := (ho.other (p := ⟨cb, 0, none⟩) hne (.bool true)).cell 0
  have c3 := (hc.put 0 (.bool true)).cell 1
  simp at c0 c1 c2 c3
  clear ho hc
  refine callsD_of_wpS Try.func85 rfl fun c₀ cs hu => ?_
  simp only [Try.ntmps85, List.size_toArray, List.length_cons, List.length_nil, Nat.reduceAdd, Nat.reduceSub, Array.replicate_succ, Array.replicate_zero, List.push_toArray, List.append_toArray, List.nil_append, List.cons_append]
  apply wpS_seq
  refine wpS_of_wp ?_
  go_wp2
  show Code.wpS _ _ _ _ _ _
  apply wpS_seq
  apply wpS_region
  simp [wpOpsS, go_sem, recoverD, hu, Exit.thenS]
  refine wpS_of_wp ?_
  go_wp2
  simp [bodyPostS, results, Try.results85]

end Go.Proofs.Ytghadpihmhaepaa
/- Contract of Read, whatever is handed over as by: by how by is left. -/
namespace Go.Proofs.Ytghadpihmhaepaa
open Go.RowKit

/-- What by is told: where its reader is, and that nothing else of old has turned. -/
structure Told (w w1 : World) (rb cb db : Nat) (l : List Nat) : Prop where
  frm : Frm [] w w1
  rdr : Rdr w1 rb cb db l
  hr : w.heap.size ≤ rb
  hc : w.heap.size ≤ cb
  hd : w.heap.size ≤ db
  dlt : db < w1.heap.size

/-- What by leaves where it returns: so much left (rest), the caller's own word (Q), and of what stood when it was called nothing but its reader, and what is older than Read, has turned. -/
def ByRet (w w1 : World) (rb cb db : Nat) (Q : World → List Nat → Prop) (e : Ending) (w2 : World) : Prop :=
  e = .returned (.tuple #[]) ∧ ∃ rest S, Q w2 rest ∧ Rdr w2 rb cb db rest ∧ Frm S w1 w2 ∧ ∀ x ∈ S, x = rb ∨ x = cb ∨ x < w.heap.size ∨ w1.heap.size ≤ x

/-- The same where by throws what its reader throws, with the code c. -/
def ByThrow (w w1 : World) (rb cb : Nat) (c : Int) (Q : World → Prop) (e : Ending) (w2 : World) : Prop :=
  e = .panicked [{ v := .iface 123 (.pointer (some ⟨cb, 0, none⟩)), recovered := false }] ∧ ∃ S, Q w2 ∧ Whole w2 cb 125 #[.bool false, .int .i64 c] ∧ Frm S w1 w2 ∧ ∀ x ∈ S, x = rb ∨ x = cb ∨ x < w.heap.size ∨ w1.heap.size ≤ x
/-- The same where by panics with an int. -/
def ByPanic (w w1 : World) (rb cb : Nat) (m : Int) (Q : World → Prop) (e : Ending) (w2 : World) : Prop :=
  e = .panicked [{ v := .iface 3 (.int .i64 m), recovered := false }] ∧ ∃ S c, Q w2 ∧ Whole w2 cb 125 #[.bool false, .int .i64 c] ∧ Frm S w1 w2 ∧ ∀ x ∈ S, x = rb ∨ x = cb ∨ x < w.heap.size ∨ w1.heap.size ≤ x

/-- What Read leaves: its answer; the world that by left, but for Read's own blocks. -/
def ReadRet (w : World) (Q : World → Int → Prop) (e : Ending) (w' : World) : Prop :=
  ∃ w2 c T, e = .returned (.int .i64 c) ∧ Q w2 c ∧ Frm T w2 w' ∧ ∀ x ∈ T, w.heap.size ≤ x

def ReadPanics (w : World) (m : Int) (Q : World → Prop) (e : Ending) (w' : World) : Prop :=
  ∃ w2 T, e = .panicked [{ v := .iface 3 (.int .i64 m), recovered := false }, { v := .iface 3 (.int .i64 m), recovered := true }] ∧ Q w2 ∧ Frm T w2 w' ∧ ∀ x ∈ T, w.heap.size ≤ x

theorem end_any {w : World} {rb cb db : Nat} {l : List Nat} (h : Rdr w rb cb db l) (c : Int) (hc : c = if l = [] then 0 else 5) :
    Calls Try.prog 86 #[.pointer (some ⟨cb, 0, none⟩), .pointer (some ⟨rb, 0, none⟩)] w fun e w' => e = .returned (.int .i64 c) ∧ w = w' := by
  have H := Lib.hid h
  obtain ⟨a, cap, _, h2, _⟩ := h
  have c1 := h2.cell 1
  simp at c1
  clear h2
  have HC := Lib.hid hc; clear hc
  by_cases hl : l = []
  · have hc0 : c = 0 := by rw [HC.out, if_pos hl]
    have h0 : l.length = 0 := by rw [hl]; rfl
    subst hc0
    have HL := Lib.hid hl; clear hl HC
    go_enter Try.func86, Try.ntmps86
    go_wp2_with (go_at_call 104; refine (left_any H.out).mono ?_; rintro e w' ⟨rfl, rfl⟩)
    go_ret
    exact ⟨rfl, rfl⟩
  · have hc5 : c = 5 := by rw [HC.out, if_neg hl]
    have h0 : 0 < l.length := by cases l with | nil => exact absurd rfl hl | cons _ _ => simp
    subst hc5
    clear hl HC
    go_enter Try.func86, Try.ntmps86
    go_wp2_with (go_at_call 104; refine (left_any H.out).mono ?_; rintro e w' ⟨rfl, rfl⟩)
    go_ret
    exact ⟨rfl, rfl⟩

theorem Whole.made' {w : World} (t : TypeId) (cs : Array Value) {g : Nat} (hg : g = w.heap.size) : Whole (w.alloc (.cells cs t)) g t cs := by subst hg; exact Whole.made w t cs

/-- Where Read calls by. -/
theorem told_mk {w w0 w1 : World} {cb ob : Nat} {l : List Nat} {a' : Option Addr} {cap' : Nat} (h8 : ∀ c ∈ l, c < 256) (hc : Whole w0 cb 125 #[.bool false, .int .i64 0]) (ho : Whole w0 ob 123 #[.pointer (some ⟨cb, 0, none⟩)])
    (hf : Frm [] w w0) (e2 : cb = w.heap.size + 1) (e3 : ob = w.heap.size + 1 + 1) (hown : w1.ownsRow w0.drew.heap.size 5 1 (.slice a' l.length cap') l.length (l.map u8v)) (hfrm : Frm [] w0.drew w1) :
    ∃ db, Told w (w1.alloc (.cells #[.slice a' l.length cap', .pointer (some ⟨cb, 0, none⟩)] 127)) w1.heap.size cb db l := by
  have hf1 : Frm [] w w1 := hf.drew.trans hfrm (by simp) (by simp)
  have hc1 : Whole w1 cb _ _ := hfrm.undrew.whole hc (by simp)
  have ho1 : Whole w1 ob _ _ := hfrm.undrew.whole ho (by simp)
  have hb := bytes_of_own hown h8
  have hcap : l.length ≤ cap' ∧ cap' ≤ 9223372036854775807 := by
    rcases hown.2 with ⟨h, h0⟩ | ⟨g, cap, cur, hv, _, _, hnc, hm, _⟩
    · injection h with _ _ h; omega
    · injection hv with _ _ h; unfold maxLen at hm; omega
  have hlt := hc1.lt
  have hlo := ho1.lt
  have mk : ∀ db, (∀ x, a' = some x → x.block = db) → w.heap.size ≤ db → db < w1.heap.size → db ≠ cb → Told w (w1.alloc (.cells #[.slice a' l.length cap', .pointer (some ⟨cb, 0, none⟩)] 127)) w1.heap.size cb db l := by
    intro db h1 h2 h3 h4
    exact ⟨hf1.alloc _, ⟨a', cap', Whole.made _ _ _, hc1.alloc _, ((Frm.refl [] w1).alloc _).bytes hb.2.1 (by simp), hcap.1, hcap.2, hb.2.2, h1, by omega, h4⟩, by omega, by omega, h2, by simp; omega⟩
  cases ha : a' with
  | none => exact ⟨ob, by rw [← ha]; exact mk ob (by rw [ha]; intro x hx; cases hx) (by omega) hlo (by omega)⟩
  | some x =>
    have hx := hown.lt x.block (by rw [ha]; rfl)
    have h0 : w.heap.size ≤ w0.heap.size := hf.size
    have h1 : w0.drew.heap.size = w0.heap.size := rfl
    have hc0 := hc.lt
    exact ⟨x.block, by rw [← ha]; exact mk x.block (by rw [ha]; intro y hy; cases hy; rfl) (by omega) hx.2 (by omega)⟩

end Go.Proofs.Ytghadpihmhaepaa
