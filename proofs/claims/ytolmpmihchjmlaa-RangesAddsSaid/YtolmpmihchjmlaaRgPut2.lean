/- Contract of the document's put: the walk. -/
import Derived.Test.YtolmpmihchjmlaaRgPut
namespace Go.Proofs.Ytolmpmihchjmlaa
open Go.RowKit

theorem one_u {W : World} {n : Nat} (hn : n < 18446744073709551616) : Uw (W.alloc (.cells #[.int .u64 (n : Nat)] 33)) (some ⟨W.heap.size, 0, none⟩) [n] := by
  have hw := Whole.made W 33 #[.int .u64 (n : Nat)]
  refine ⟨by simp; exact hn, fun _ => ⟨W.heap.size, 0, rfl, fun i hi => ?_⟩⟩
  simp at hi
  subst hi
  exact hw.cell 0

theorem own_drew {w : World} {base : Nat} {e : TypeId} {size n : Nat} {v : Value} {xs : List Value} (h : w.ownsRow base e size v n xs) : w.drew.ownsRow base e size v n xs := h
theorem uw_whole {w : World} {g n : Nat} (h : Whole w g 33 #[.int .u64 (n : Nat)]) (hn : n < 18446744073709551616) : Uw w (some ⟨g, 0, none⟩) [n] := by
  refine ⟨by simp; exact hn, fun _ => ⟨g, 0, rfl, fun i hi => ?_⟩⟩
  simp at hi
  subst hi
  exact h.cell 0
theorem grown_whole {w w' : World} {g : Nat} {t : TypeId} {cs : Array Value} {row : Option Nat} (h : w.grownBy w' row) (hw : Whole w g t cs) (hne : row ≠ some g) : Whole w' g t cs := by
  unfold Whole
  rw [h.block g hw.lt (fun e => hne e.symm)]
  exact hw
theorem own_lit2 {w : World} (o : Obj) : ((w.alloc o).alloc (.cells #[] 33)).ownsRow w.heap.size 33 1 (.slice (some ⟨w.heap.size + 1, 0, none⟩) 0 0) 0 [] := by
  have h := World.ownsRow_lit (base := w.heap.size) (e := 33) (size := 1) (w.alloc o) #[] 0 (by simp) (by unfold maxLen; omega) rfl
  have e : (w.alloc o).heap.size = w.heap.size + 1 := by simp
  rw [e] at h
  exact h

def AtRel (l : List Nat) (n m : Nat) (i : Value) : Prop := ∃ k : Nat, k ≤ m ∧ i = .int .i64 k ∧ Hid (∀ t, t < k → l.getD t 0 < n)

set_option maxRecDepth 100000 in
set_option maxHeartbeats 4000000 in
theorem putU_any {w : World} {a : Option Addr} {cap m : Nat} {l : List Nat} (h : UIn w a cap l) (hu : Up l) (hm : m = l.length) (hsz : m ≤ 10000) {n : Nat} (hn : n < 18446744073709551616) :
    Calls Try.prog 69 #[.slice a m cap, .int .u64 n] w (GotU w (fun x => x ∈ l ∨ x = n) (m + 1)) := by
  have hmc : m ≤ cap := by rw [hm]; exact h.2.2.1
  have hcm := h.2.2.2
  have H := Lib.hid h; clear h
  have HU := Lib.hid hu; clear hu
  have HM := Lib.hid hm; clear hm
  go_enter Try.func69, Try.ntmps69
  go_wp2
  go_loop [5] (fun i => AtRel l n m i) (fun i => m - (intOf i).toNat)
  case atStart => exact ⟨0, Nat.zero_le _, rfl, fun t ht => absurd ht (Nat.not_lt_zero _)⟩
  case round =>
    obtain ⟨k, hk, rfl, HI⟩ := hrel
    by_cases hlt : k < m
    · obtain ⟨b, off, rfl, hc⟩ := H.out.1.2 (by have := HM.out; omega)
      have d0 := hc k (by have := HM.out; omega)
      clear hc
      have hyb := u_bd H.out.1.1 k
      obtain ⟨y, hy⟩ : ∃ y, y = l.getD k 0 := ⟨_, rfl⟩
      rw [← hy] at d0 hyb
      have HY := Lib.hid hy; clear hy
      have hlt' : (k : Int) < (m : Int) := by omega
      by_cases hyn : y < n
      · have HI2 : Hid (∀ t, t < k + 1 → l.getD t 0 < n) := by
          intro t ht
          rcases Nat.lt_or_eq_of_le (Nat.le_of_lt_succ ht) with h1 | rfl
          · exact HI.out t h1
          · rw [← HY.out]; exact hyn
        have hyn' : (y : Int) < (n : Int) := by omega
        clear hyn
        go_wp2
        go_round
        case rel => exact ⟨k + 1, by omega, by go_num, HI2⟩
        case measure => simp [intOf]; omega
      · by_cases hye : y = n
        · subst hye
          have FIN : Hid (GotU w (fun x => x ∈ l ∨ x = y) (m + 1) (.returned (.slice (some ⟨b, off, none⟩) m cap)) w) :=
            ⟨_, m, cap, l, rfl, HM.out, H.out, ⟨HU.out, fun x => ⟨.inl, fun h => h.elim id (fun h => by rw [h, HY.out]; exact mem_getD (by have := HM.out; omega))⟩⟩, by have := HM.out; omega, (Frm.refl _ _ : Frm [] w w)⟩
          have hlt2 : ¬ (y : Int) < (y : Int) := by omega
          have heq : ((y : Int) == (y : Int)) = true := by simp
          go_wp2
          go_ret
          exact FIN.out
        · have hlt2 : ¬ (y : Int) < (n : Int) := by omega
          have heq : ((y : Int) == (n : Int)) = false := by simp; omega
          have PUT := Lib.hid (up_put HU.out (n := n) (k := k) (by have := HM.out; omega) HI.out (fun _ => by rw [← HY.out]; omega))
          have cA := fun w => run_cutU_h w (some ⟨b, off, none⟩) m cap k (k : Int) rfl (by omega)
          have cB := fun w => run_cutU_l w (some ⟨b, off, none⟩) m cap k (k : Int) rfl (by omega)
          obtain ⟨aA, haA⟩ : ∃ aA, aA = cutU (some ⟨b, off, none⟩) cap 0 := ⟨_, rfl⟩
          obtain ⟨aB, haB⟩ : ∃ aB, aB = cutU (some ⟨b, off, none⟩) cap k := ⟨_, rfl⟩
          obtain ⟨nB, hnB⟩ : ∃ nB, nB = m - k := ⟨_, rfl⟩
          obtain ⟨cB', hcB'⟩ : ∃ cB', cB' = cap - k := ⟨_, rfl⟩
          rw [← haA] at cA
          rw [← haB, ← hnB, ← hcB'] at cB
          have HAA := Lib.hid haA; clear haA
          have HAB := Lib.hid haB; clear haB
          have HNB := Lib.hid hnB; clear hnB
          have HCB := Lib.hid hcB'; clear hcB'
          clear hye hyn
          go_wp2
          have F0 : Frm [] w w := Frm.refl _ _
          obtain ⟨i0, hi0, hz0, hz1, hz2⟩ := info_parts Try.info33
          have HI0 := Lib.hid hi0; clear hi0
          have HZ0 := Lib.hid hz0; clear hz0
          have HZ1 := Lib.hid hz1; clear hz1
          have HZ2 := Lib.hid hz2; clear hz2
          have O1 : Hid ((w.alloc (.cells #[] 33)).drew.ownsRow w.heap.size 33 1 (.slice (some ⟨w.heap.size, 0, none⟩) 0 0) 0 []) := own_drew (World.ownsRow_lit w #[] 0 (Nat.le_refl _) (by unfold maxLen; omega) rfl)
          have O2 : Hid (((w.alloc (.cells #[] 33)).alloc (.cells #[.int .u64 (n : Nat)] 33)).drew.ownsRow w.heap.size 33 1 (.slice (some ⟨w.heap.size, 0, none⟩) 0 0) 0 []) := own_drew ((World.ownsRow_lit w #[] 0 (Nat.le_refl _) (by unfold maxLen; omega) rfl).alloc _)
          have O3 : Hid (((w.alloc (.cells #[.int .u64 (n : Nat)] 33)).alloc (.cells #[] 33)).drew.ownsRow w.heap.size 33 1 (.slice (some ⟨w.heap.size + 1, 0, none⟩) 0 0) 0 []) := own_drew (own_lit2 _)
          have N2 : Hid (Whole ((w.alloc (.cells #[] 33)).alloc (.cells #[.int .u64 (n : Nat)] 33)).drew (w.heap.size + 1) 33 #[.int .u64 (n : Nat)]) := (Whole.made2 (w := w) (.cells #[] 33) 33 #[.int .u64 (n : Nat)] rfl).drew
          have N3 : Hid (Whole ((w.alloc (.cells #[.int .u64 (n : Nat)] 33)).alloc (.cells #[] 33)).drew w.heap.size 33 #[.int .u64 (n : Nat)]) := ((Whole.made w _ _).alloc _).drew
          have SA : Hid (∀ W, Frm [] w W → Uw W aA (l.take k)) := fun W hf => by
            have := ((H.out.1.keep hf).cut (cap := cap) (by have := HM.out; omega) 0).take k
            rw [List.drop_zero] at this
            rw [HAA.out]; exact this
          have SB : Hid (∀ W, Frm [] w W → Uw W aB (l.drop k)) := fun W hf => by
            rw [HAB.out]; exact (H.out.1.keep hf).cut (cap := cap) (by have := HM.out; omega) k
          have LA : Hid (k = (l.take k).length) := by show k = _; rw [List.length_take]; have := HM.out; omega
          have LB : Hid (nB = (l.drop k).length) := by show nB = _; rw [List.length_drop, HNB.out]; have := HM.out; omega
          have ZA : Hid (aA = none → cap = 0) := fun h => by rw [HAA.out] at h; have := cutU_none H.out.2.1 h; omega
          have ZB : Hid (aB = none → cB' = 0) := fun h => by rw [HAB.out] at h; have := cutU_none H.out.2.1 h; rw [HCB.out]; omega
          have ONE : Hid (∀ W : World, Uw (W.alloc (.cells #[.int .u64 (n : Nat)] 33)).drew (some ⟨W.heap.size, 0, none⟩) [n]) := fun W => one_u hn
          have hnB' : nB ≤ 10000 := by have := HNB.out; omega
          go_region_held3 (fun w' => Frm [] w w') (repeat (first | assumption | apply Frm.drew | apply Frm.alloc)) ((first
            | (refine step_appU rfl (.tmp 33) (.tmp 36) 84 rfl w.heap.size 33 i0 Try.underlying84 HI0.out HZ0.out HZ1.out HZ2.out _ 0 [] rfl O1.out _ _ _ (l.take k) rfl (SA.out _ (by assumption)) LA.out ZA.out (by omega) (by refine Frm.size (S := []) (w := w) ?_; assumption) ?_; intro a1 c1 w1 happ1; have hf1 : Frm [] w w1 := frm_appU (by assumption) happ1 (fun x hx => .inr (by cases hx; simp)); have ho1 : w1.ownsRow w.heap.size 33 1 (.slice a1 k c1) k ((l.take k).map uv) := (by have h := happ1.own; rw [Nat.zero_add, List.nil_append] at h; exact h))
            | (refine step_appU rfl (.tmp 33) (.tmp 36) 84 rfl w.heap.size 33 i0 Try.underlying84 HI0.out HZ0.out HZ1.out HZ2.out _ 0 [] rfl O2.out _ _ _ (l.take k) rfl (SA.out _ (by assumption)) LA.out ZA.out (by omega) (by refine Frm.size (S := []) (w := w) ?_; assumption) ?_; intro a1 c1 w1 happ1; have hf1 : Frm [] w w1 := frm_appU (by assumption) happ1 (fun x hx => .inr (by cases hx; simp)); have hn1 : Uw w1 (some ⟨w.heap.size + 1, 0, none⟩) [n] := uw_whole (grown_whole happ1.grown N2.out (show (some w.heap.size : Option Nat) ≠ some (w.heap.size + 1) by simp)) hn)
            | (refine step_appU rfl (.tmp 33) (.tmp 36) 84 rfl w.heap.size 33 i0 Try.underlying84 HI0.out HZ0.out HZ1.out HZ2.out _ 0 [] rfl O3.out _ _ _ (l.take k) rfl (SA.out _ (by assumption)) LA.out ZA.out (by omega) (by refine Frm.size (S := []) (w := w) ?_; assumption) ?_; intro a1 c1 w1 happ1; have hf1 : Frm [] w w1 := frm_appU (by assumption) happ1 (fun x hx => .inr (by cases hx; simp)); have hn1 : Uw w1 (some ⟨w.heap.size, 0, none⟩) [n] := uw_whole (grown_whole happ1.grown N3.out (show (some (w.heap.size + 1) : Option Nat) ≠ some w.heap.size by simp)) hn)
            | (refine step_appU rfl (.tmp 37) (.tmp 39) 84 rfl w.heap.size 33 i0 Try.underlying84 HI0.out HZ0.out HZ1.out HZ2.out _ _ _ rfl happ1.own _ _ _ [n] rfl hn1 rfl (by intro h; cases h) (by omega) (by refine Frm.size (S := []) (w := w) ?_; assumption) ?_; intro a2 c2 w2 happ2; have hf2 : Frm [] w w2 := frm_appU hf1 happ2 (fun x hx => .inr (World.ownsRow.lt happ1.own x.block (by rw [hx]; rfl)).1))
            | (refine step_appU rfl (.tmp 37) (.tmp 39) 84 rfl w.heap.size 33 i0 Try.underlying84 HI0.out HZ0.out HZ1.out HZ2.out _ _ _ rfl (own_drew (World.ownsRow.alloc ho1 _)) _ _ _ [n] rfl (ONE.out _) rfl (by intro h; cases h) (by omega) (by refine Frm.size (S := []) (w := w) ?_; assumption) ?_; intro a2 c2 w2 happ2; have hf2 : Frm [] w w2 := frm_appU (by assumption) happ2 (fun x hx => .inr (World.ownsRow.lt happ1.own x.block (by rw [hx]; rfl)).1))
            | (refine step_appU rfl (.tmp 40) (.tmp 43) 84 rfl w.heap.size 33 i0 Try.underlying84 HI0.out HZ0.out HZ1.out HZ2.out _ _ _ rfl happ2.own _ _ _ (l.drop k) rfl (SB.out _ (by assumption)) LB.out ZB.out (by omega) (by refine Frm.size (S := []) (w := w) ?_; assumption) ?_; intro a3 c3 w3 happ3; have hf3 : Frm [] w w3 := frm_appU hf2 happ3 (fun x hx => .inr (World.ownsRow.lt happ2.own x.block (by rw [hx]; rfl)).1))))
          all_goals
            have ho3 : OwnU w3 w.heap.size a3 c3 (l.take k ++ ([n] ++ l.drop k)) := by
              have h := happ3.own
              have e1 : (l.take k ++ ([n] ++ l.drop k)).length = k + 1 + nB := by
                rw [List.length_append, List.length_append, ← LA.out, ← LB.out]; simp; omega
              unfold OwnU
              rw [e1]
              simpa only [Nat.zero_add, List.nil_append, List.map_append, List.map_cons, List.map_nil, List.append_assoc] using h
            have FIN : Hid (GotU w (fun x => x ∈ l ∨ x = n) (m + 1) (.returned (.slice a3 (k + 1 + nB) c3)) w3) := by
              have hb : ∀ c ∈ l.take k ++ ([n] ++ l.drop k), c < 18446744073709551616 := fun c hc => by
                rcases (PUT.out.2 c).1 hc with h | h
                · exact H.out.1.1 c h
                · omega
              have e1 : k + 1 + nB = (l.take k ++ ([n] ++ l.drop k)).length := by
                rw [List.length_append, List.length_append, ← LA.out, ← LB.out]; simp; omega
              exact ⟨a3, _, c3, _, rfl, e1, ho3.uw hb, PUT.out, by rw [← e1]; have := HNB.out; omega, hf3⟩
            clear ho3 hf3 hf2 hf1 happ1 happ2 happ3 O1 O2 O3 N2 N3
            go_wp2
            go_ret
            exact FIN.out
    · obtain rfl : k = m := by omega
      have hlt2 : ¬ (k : Int) < (k : Int) := by omega
      have PUT := Lib.hid (up_put HU.out (n := n) (k := k) (by have := HM.out; omega) HI.out (fun h => by have := HM.out; omega))
      have cA := fun w => run_cutU_h w a k cap k (k : Int) rfl (by omega)
      have cB := fun w => run_cutU_l w a k cap k (k : Int) rfl (by omega)
      obtain ⟨aA, haA⟩ : ∃ aA, aA = cutU a cap 0 := ⟨_, rfl⟩
      obtain ⟨aB, haB⟩ : ∃ aB, aB = cutU a cap k := ⟨_, rfl⟩
      obtain ⟨nB, hnB⟩ : ∃ nB, nB = k - k := ⟨_, rfl⟩
      obtain ⟨cB', hcB'⟩ : ∃ cB', cB' = cap - k := ⟨_, rfl⟩
      rw [← haA] at cA
      rw [← haB, ← hnB, ← hcB'] at cB
      have HAA := Lib.hid haA; clear haA
      have HAB := Lib.hid haB; clear haB
      have HNB := Lib.hid hnB; clear hnB
      have HCB := Lib.hid hcB'; clear hcB'
      clear hlt hlt2
      go_wp2
      have F0 : Frm [] w w := Frm.refl _ _
      obtain ⟨i0, hi0, hz0, hz1, hz2⟩ := info_parts Try.info33
      have HI0 := Lib.hid hi0; clear hi0
      have HZ0 := Lib.hid hz0; clear hz0
      have HZ1 := Lib.hid hz1; clear hz1
      have HZ2 := Lib.hid hz2; clear hz2
      have O1 : Hid ((w.alloc (.cells #[] 33)).drew.ownsRow w.heap.size 33 1 (.slice (some ⟨w.heap.size, 0, none⟩) 0 0) 0 []) := own_drew (World.ownsRow_lit w #[] 0 (Nat.le_refl _) (by unfold maxLen; omega) rfl)
      have O2 : Hid (((w.alloc (.cells #[] 33)).alloc (.cells #[.int .u64 (n : Nat)] 33)).drew.ownsRow w.heap.size 33 1 (.slice (some ⟨w.heap.size, 0, none⟩) 0 0) 0 []) := own_drew ((World.ownsRow_lit w #[] 0 (Nat.le_refl _) (by unfold maxLen; omega) rfl).alloc _)
      have O3 : Hid (((w.alloc (.cells #[.int .u64 (n : Nat)] 33)).alloc (.cells #[] 33)).drew.ownsRow w.heap.size 33 1 (.slice (some ⟨w.heap.size + 1, 0, none⟩) 0 0) 0 []) := own_drew (own_lit2 _)
      have N2 : Hid (Whole ((w.alloc (.cells #[] 33)).alloc (.cells #[.int .u64 (n : Nat)] 33)).drew (w.heap.size + 1) 33 #[.int .u64 (n : Nat)]) := (Whole.made2 (w := w) (.cells #[] 33) 33 #[.int .u64 (n : Nat)] rfl).drew
      have N3 : Hid (Whole ((w.alloc (.cells #[.int .u64 (n : Nat)] 33)).alloc (.cells #[] 33)).drew w.heap.size 33 #[.int .u64 (n : Nat)]) := ((Whole.made w _ _).alloc _).drew
      have SA : Hid (∀ W, Frm [] w W → Uw W aA (l.take k)) := fun W hf => by
        have := ((H.out.1.keep hf).cut (cap := cap) (by have := HM.out; omega) 0).take k
        rw [List.drop_zero] at this
        rw [HAA.out]; exact this
      have SB : Hid (∀ W, Frm [] w W → Uw W aB (l.drop k)) := fun W hf => by
        rw [HAB.out]; exact (H.out.1.keep hf).cut (cap := cap) (by have := HM.out; omega) k
      have LA : Hid (k = (l.take k).length) := by show k = _; rw [List.length_take]; have := HM.out; omega
      have LB : Hid (nB = (l.drop k).length) := by show nB = _; rw [List.length_drop, HNB.out]; have := HM.out; omega
      have ZA : Hid (aA = none → cap = 0) := fun h => by rw [HAA.out] at h; have := cutU_none H.out.2.1 h; omega
      have ZB : Hid (aB = none → cB' = 0) := fun h => by rw [HAB.out] at h; have := cutU_none H.out.2.1 h; rw [HCB.out]; omega
      have ONE : Hid (∀ W : World, Uw (W.alloc (.cells #[.int .u64 (n : Nat)] 33)).drew (some ⟨W.heap.size, 0, none⟩) [n]) := fun W => one_u hn
      have hnB' : nB ≤ 10000 := by have := HNB.out; omega
      go_region_held3 (fun w' => Frm [] w w') (repeat (first | assumption | apply Frm.drew | apply Frm.alloc)) ((first
        | (refine step_appU rfl (.tmp 33) (.tmp 36) 84 rfl w.heap.size 33 i0 Try.underlying84 HI0.out HZ0.out HZ1.out HZ2.out _ 0 [] rfl O1.out _ _ _ (l.take k) rfl (SA.out _ (by assumption)) LA.out ZA.out (by omega) (by refine Frm.size (S := []) (w := w) ?_; assumption) ?_; intro a1 c1 w1 happ1; have hf1 : Frm [] w w1 := frm_appU (by assumption) happ1 (fun x hx => .inr (by cases hx; simp)); have ho1 : w1.ownsRow w.heap.size 33 1 (.slice a1 k c1) k ((l.take k).map uv) := (by have h := happ1.own; rw [Nat.zero_add, List.nil_append] at h; exact h))
        | (refine step_appU rfl (.tmp 33) (.tmp 36) 84 rfl w.heap.size 33 i0 Try.underlying84 HI0.out HZ0.out HZ1.out HZ2.out _ 0 [] rfl O2.out _ _ _ (l.take k) rfl (SA.out _ (by assumption)) LA.out ZA.out (by omega) (by refine Frm.size (S := []) (w := w) ?_; assumption) ?_; intro a1 c1 w1 happ1; have hf1 : Frm [] w w1 := frm_appU (by assumption) happ1 (fun x hx => .inr (by cases hx; simp)); have hn1 : Uw w1 (some ⟨w.heap.size + 1, 0, none⟩) [n] := uw_whole (grown_whole happ1.grown N2.out (show (some w.heap.size : Option Nat) ≠ some (w.heap.size + 1) by simp)) hn)
        | (refine step_appU rfl (.tmp 33) (.tmp 36) 84 rfl w.heap.size 33 i0 Try.underlying84 HI0.out HZ0.out HZ1.out HZ2.out _ 0 [] rfl O3.out _ _ _ (l.take k) rfl (SA.out _ (by assumption)) LA.out ZA.out (by omega) (by refine Frm.size (S := []) (w := w) ?_; assumption) ?_; intro a1 c1 w1 happ1; have hf1 : Frm [] w w1 := frm_appU (by assumption) happ1 (fun x hx => .inr (by cases hx; simp)); have hn1 : Uw w1 (some ⟨w.heap.size, 0, none⟩) [n] := uw_whole (grown_whole happ1.grown N3.out (show (some (w.heap.size + 1) : Option Nat) ≠ some w.heap.size by simp)) hn)
        | (refine step_appU rfl (.tmp 37) (.tmp 39) 84 rfl w.heap.size 33 i0 Try.underlying84 HI0.out HZ0.out HZ1.out HZ2.out _ _ _ rfl happ1.own _ _ _ [n] rfl hn1 rfl (by intro h; cases h) (by omega) (by refine Frm.size (S := []) (w := w) ?_; assumption) ?_; intro a2 c2 w2 happ2; have hf2 : Frm [] w w2 := frm_appU hf1 happ2 (fun x hx => .inr (World.ownsRow.lt happ1.own x.block (by rw [hx]; rfl)).1))
        | (refine step_appU rfl (.tmp 37) (.tmp 39) 84 rfl w.heap.size 33 i0 Try.underlying84 HI0.out HZ0.out HZ1.out HZ2.out _ _ _ rfl (own_drew (World.ownsRow.alloc ho1 _)) _ _ _ [n] rfl (ONE.out _) rfl (by intro h; cases h) (by omega) (by refine Frm.size (S := []) (w := w) ?_; assumption) ?_; intro a2 c2 w2 happ2; have hf2 : Frm [] w w2 := frm_appU (by assumption) happ2 (fun x hx => .inr (World.ownsRow.lt happ1.own x.block (by rw [hx]; rfl)).1))
        | (refine step_appU rfl (.tmp 40) (.tmp 43) 84 rfl w.heap.size 33 i0 Try.underlying84 HI0.out HZ0.out HZ1.out HZ2.out _ _ _ rfl happ2.own _ _ _ (l.drop k) rfl (SB.out _ (by assumption)) LB.out ZB.out (by omega) (by refine Frm.size (S := []) (w := w) ?_; assumption) ?_; intro a3 c3 w3 happ3; have hf3 : Frm [] w w3 := frm_appU hf2 happ3 (fun x hx => .inr (World.ownsRow.lt happ2.own x.block (by rw [hx]; rfl)).1))))
      all_goals
        have ho3 : OwnU w3 w.heap.size a3 c3 (l.take k ++ ([n] ++ l.drop k)) := by
          have h := happ3.own
          have e1 : (l.take k ++ ([n] ++ l.drop k)).length = k + 1 + nB := by
            rw [List.length_append, List.length_append, ← LA.out, ← LB.out]; simp; omega
          unfold OwnU
          rw [e1]
          simpa only [Nat.zero_add, List.nil_append, List.map_append, List.map_cons, List.map_nil, List.append_assoc] using h
        have FIN : Hid (GotU w (fun x => x ∈ l ∨ x = n) (k + 1) (.returned (.slice a3 (k + 1 + nB) c3)) w3) := by
          have hb : ∀ c ∈ l.take k ++ ([n] ++ l.drop k), c < 18446744073709551616 := fun c hc => by
            rcases (PUT.out.2 c).1 hc with h | h
            · exact H.out.1.1 c h
            · omega
          have e1 : k + 1 + nB = (l.take k ++ ([n] ++ l.drop k)).length := by
            rw [List.length_append, List.length_append, ← LA.out, ← LB.out]; simp; omega
          exact ⟨a3, _, c3, _, rfl, e1, ho3.uw hb, PUT.out, by rw [← e1]; have := HNB.out; omega, hf3⟩
        clear ho3 hf3 hf2 hf1 happ1 happ2 happ3 O1 O2 O3 N2 N3
        go_wp2
        go_ret
        exact FIN.out
end Go.Proofs.Ytolmpmihchjmlaa
