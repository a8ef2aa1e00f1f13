/- Contracts of the document's All, Split of Maps. -/
import Derived.Test.YtbdgmpfdcmmfhaaDoorMpBase
import Derived.Deep.DeepCutAuto
import Derived.Deep.CutBlock
namespace Go.Proofs.YtbdgmpfdcmmfhaaDoor
open Go.RowKit
set_option maxRecDepth 100000

theorem infoI : (Tryd.prog.info? 3).map (fun i => (i.zero, i.size, i.bytes)) = some (some (.int .i64 0), 1, 8) := by kernel_rfl
def upM (f : Nat → Bool) (k : Nat) : List Nat := (List.range k).filter f
theorem upM_succ (f : Nat → Bool) (k : Nat) : upM f (k + 1) = upM f k ++ if f k = true then [k] else [] := by
  unfold upM
  rw [List.range_succ, List.filter_append]
  congr 1
  by_cases h : f k = true <;> simp [h]
theorem upM_len (f : Nat → Bool) (k : Nat) : (upM f k).length ≤ k := by
  have := List.length_filter_le f (List.range k)
  simpa [upM] using this
def MAllE (w : World) (L : List Nat) (e : Ending) (w' : World) : Prop := ∃ a' n' c', e = .returned (.slice a' n' c') ∧ n' = L.length ∧ IvOwn w' w.heap.size 3 [] a' c' L ∧ Frm [] w w'
set_option maxHeartbeats 4000000 in
theorem mall_any {w : World} {p : Nat} {f : Nat → Bool} (h : Mp w p f) :
    Calls Tryd.prog 17 #[.pointer (some ⟨p, 0, none⟩)] w (MAllE w (allM f)) := by
  obtain ⟨i0, hi, hz0, hz1, hz2⟩ := info_parts infoI
  have HI := Lib.hid hi; clear hi
  have HZ0 := Lib.hid hz0; clear hz0
  have HZ1 := Lib.hid hz1; clear hz1
  have HZ2 := Lib.hid hz2; clear hz2
  have HH := Lib.hid h; clear h
  go_enter Tryd.func17, Tryd.ntmps17
  go_wp2
  go_loopw [3, 4] (fun u3 u4 wr => ∃ (k : Nat) (a' : Option Addr) (c' m : Nat), k ≤ 65536 ∧ m ≤ k ∧ u3 = .slice a' m c' ∧ u4 = .int .i64 (k : Nat) ∧ Hid (m = (upM f k).length) ∧ Hid (IvOwn wr w.heap.size 3 [] a' c' (upM f k)) ∧ Hid (Frm [] w wr)) (fun _ u4 _ => 65536 - (intOf u4).toNat)
  case atStart => exact ⟨0, none, 0, 0, Nat.zero_le _, Nat.le_refl _, rfl, rfl, Lib.hid rfl, Lib.hid (IvOwn.nil _ _ _ _), Lib.hid (Frm.refl _ _)⟩
  case round =>
    obtain ⟨k, a', c', m, hk, hmk, rfl, rfl, HM, HO, HF⟩ := hrel
    by_cases hlt : k < 65536
    · have hlt' : (k : Int) < 65536 := by omega
      have c0 := (HH.out.keep HF.out (by simp)).cell k hlt
      have hst := upM_succ f k
      cases e : f k
      · rw [e] at c0 hst
        have ST : Hid (upM f (k + 1) = upM f k) := Lib.hid (by rw [hst]; simp)
        clear e hst
        have N1 : Hid (m = (upM f (k + 1)).length) := Lib.hid (by rw [ST.out]; exact HM.out)
        have N2 : Hid (IvOwn wr w.heap.size 3 [] a' c' (upM f (k + 1))) := Lib.hid (by rw [ST.out]; exact HO.out)
        go_wp2
        go_roundw
        case rel => exact ⟨k + 1, a', c', m, by omega, by omega, rfl, by go_num, N1, N2, HF⟩
        case measure => simp [intOf]; omega
      · rw [e] at c0 hst
        have ST : Hid (upM f (k + 1) = upM f k ++ [k]) := Lib.hid (by rw [hst]; simp)
        clear e hst
        have OWN : Hid ((wr.alloc (.cells #[.int .i64 (k : Nat)] 3)).ownsRow w.heap.size 3 1 (.slice a' m c') m (ivs (upM f k))) := Lib.hid (by
          have := (HO.out.keep (S := []) (F' := []) ((Frm.refl [] wr).alloc (.cells #[.int .i64 (k : Nat)] 3)) (by simp) (by simp)).own
          rwa [← HM.out] at this)
        have ONE : Hid (ValsAt (wr.alloc (.cells #[.int .i64 (k : Nat)] 3)) (some ⟨wr.heap.size, 0, none⟩) (ivs [k])) := Lib.hid (ivs_vals_one wr k 3)
        have hbz : w.heap.size ≤ (wr.alloc (.cells #[.int .i64 (k : Nat)] 3)).heap.size := by have := HF.out.size; simp; omega
        have hfit1 : m + 1 ≤ 1000000000 := by omega
        go_wp2_with (at_builtin; refine wpList_appS (by rfl) (.tmp 15) (.tmp 17) 23 rfl w.heap.size 3 i0 (.int .i64 0) 1 8 Tryd.underlying23 HI.out HZ0.out rfl (by decide) HZ1.out HZ2.out (by decide) (.slice a' m c') m _ rfl OWN.out _ 1 1 _ rfl ONE.out rfl (ivs_one _) (fun h => by cases h) hfit1 hbz ?_)
        intro a3 c3 w3 happ
        have AL := (Frm.refl [] wr).alloc (.cells #[.int .i64 (k : Nat)] 3)
        obtain ⟨g1, g2, g3, g4⟩ := (HO.out.keep (S := []) (F' := []) AL (by simp) (by simp)).app HM.out (by simp) happ
        have N1 : Hid (m + 1 = (upM f (k + 1)).length) := Lib.hid (by rw [ST.out]; exact g4)
        have N2 : Hid (IvOwn w3 w.heap.size 3 [] a3 c3 (upM f (k + 1))) := Lib.hid (by rw [ST.out]; exact g1)
        have N3 : Hid (Frm [] w w3) := Lib.hid ((HF.out.trans AL (U := []) (by simp) (by simp)).trans g2 (by simp) (fun x hx => .inr (HO.out.blk_lt x hx).1))
        clear happ g1 g2 g3 g4 AL hbz OWN ONE c0
        go_wp2
        go_roundw
        case rel => exact ⟨k + 1, a3, c3, m + 1, by omega, by omega, by rfl, by go_num, N1, N2, N3⟩
        case measure => simp [intOf]; omega
    · obtain rfl : k = 65536 := by omega
      have HE : Hid (MAllE w (allM f) (.returned (.slice a' m c')) wr) := Lib.hid ⟨a', m, c', rfl, HM.out, HO.out, HF.out⟩
      go_wp2
      go_ret
      exact HE.out

set_option maxHeartbeats 2000000 in
theorem msplit_any {w : World} {p : Nat} {f : Nat → Bool} (k : Int) (h : Mp w p f) :
    Calls Tryd.prog 14 #[.pointer (some ⟨p, 0, none⟩), .int .i64 k] w (MpE w p (splF f k) (splC f k)) := by
  have HH := Lib.hid h
  have AL := Lib.hid (mall_any h)
  obtain ⟨Q, hQ⟩ : ∃ Q, Q = MpE w p (splF f k) (splC f k) := ⟨_, rfl⟩
  have SAME : Hid (∀ (c : Nat) (z : World), splC f k = c → c ≠ 0 → Frm [] w z → Q (.returned (.int .i64 (c : Nat))) z) := Lib.hid (fun c z hc h0 hz => by
    rw [hQ]
    refine ⟨by rw [hc], ?_, hz.weak (by simp)⟩
    unfold splF; rw [if_neg (by rw [hc]; exact h0)]; exact h.keep hz (by simp))
  have F0 : Hid (Frm [] w w) := Lib.hid (Frm.refl _ _)
  rw [← hQ]
  have HQ := Lib.hid hQ
  clear hQ h
  go_enter Tryd.func14, Tryd.ntmps14
  by_cases h1 : k < 1
  · have EH := Lib.hid (SAME.out 2 w (by unfold splC; rw [if_pos (.inl h1)]) (by decide) F0.out)
    go_wp2
    exact EH.out
  · by_cases h2 : 65535 < k
    · have EH := Lib.hid (SAME.out 2 w (by unfold splC; rw [if_pos (.inr h2)]) (by decide) F0.out)
      go_wp2
      exact EH.out
    · obtain ⟨j, rfl⟩ : ∃ j : Nat, k = (j : Int) := ⟨k.toNat, by omega⟩
      have hj : j < 65536 := by omega
      have hj' : (j : Int) < 65536 := by omega
      have c0 := HH.out.cell j hj
      have hno : ¬ ((j : Int) < 1 ∨ 65535 < (j : Int)) := by omega
      cases e : f j
      · rw [e] at c0
        have SC : Hid (splC f (j : Int) = if (allM f).length = 16 then 14 else 0) := Lib.hid (by unfold splC; rw [if_neg hno, if_neg (by rw [Int.toNat_natCast, e]; simp)])
        clear e hno
        go_wp2_with fail
        (with_reducible refine AL.out.mono ?_)
        rintro e z ⟨a', n', c', rfl, hn', _, hz⟩
        have FZ := Lib.hid hz
        have HN := Lib.hid hn'
        clear hz hn'
        by_cases h16 : n' = 16
        · have k6 : ((n' : Int) == 16) = true := by simp; omega
          have EH := Lib.hid (SAME.out 14 z (by rw [SC.out, ← HN.out, if_pos h16]) (by decide) FZ.out)
          clear h16
          go_wp2
          exact EH.out
        · have k6 : ((n' : Int) == 16) = false := by simp; omega
          have J0 : splC f (j : Int) = 0 := by rw [SC.out, ← HN.out, if_neg h16]
          have MZ := Lib.hid (HH.out.keep FZ.out (by simp))
          have c1 := MZ.out.cell j hj
          have f1 := MZ.out.free j hj
          have EH : Hid (Q (.returned (.int .i64 0)) (z.setCell ⟨p, j, none⟩ (.bool true))) := Lib.hid (by
            rw [HQ.out]
            refine ⟨by rw [J0]; rfl, ?_, FZ.out.trans ((Frm.refl [p] z).setCell (.inl (by simp)) _) (by simp) (fun x hx => .inl hx)⟩
            unfold splF
            rw [if_pos J0, Int.toNat_natCast]
            exact MZ.out.put j hj true)
          clear h16 J0 c0
          go_wp2
          exact EH.out
      · rw [e] at c0
        have EH := Lib.hid (SAME.out 12 w (by unfold splC; rw [if_neg hno, if_pos (by rw [Int.toNat_natCast, e])]) (by decide) F0.out)
        clear e hno
        go_wp2
        exact EH.out
end Go.Proofs.YtbdgmpfdcmmfhaaDoor
