/- Contracts of the program's right and of the reference's Loads: can nodes be a tree's? -/
import Derived.Test.YtchhbmhnjknhaaaTrBase
import Derived.Test.YtchhbmhnjknhaaaTrMath
import Derived.WalkLawsBesides
import Derived.IntWalk
import Derived.Deep.QuietTactic
import Derived.BigQuiet
namespace Go.Proofs.Ytchhbmhnjknhaaa
open Go.RowKit

/-- Is the node at i one that a tree may have there? -/
def okAt (X : List Nd) (i : Nat) : Prop := lenC (X.getD i default).k.size (X.getD i default).v.length = 0 ∧ (X.getD i default).ver ≠ 0 ∧ (0 < i → kl (X.getD (i - 1) default).k (X.getD i default).k = true)
def LoadsP (X : List Nd) : Prop := X.length ≤ 256 ∧ ∀ i, i < X.length → okAt X i
theorem kl_cases (a b : ByteArray) : (kl a b = true ∧ Op.bytesLess b.toList a.toList = false ∧ (b.toList == a.toList) = false) ∨ (kl a b = false ∧ Op.bytesLess b.toList a.toList = true) ∨ (kl a b = false ∧ Op.bytesLess b.toList a.toList = false ∧ (b.toList == a.toList) = true) := by
  cases h : kl a b
  · right
    cases h2 : Op.bytesLess b.toList a.toList
    · right
      have e := kl_tot h h2
      subst e
      exact ⟨rfl, rfl, by simp⟩
    · exact .inl ⟨rfl, rfl⟩
  · refine .inl ⟨rfl, kl_asym h, txt_ne (fun e => kl_ne h e.symm)⟩
def BoolF (w : World) (P : Prop) (e : Ending) (w' : World) : Prop := (∃ b : Bool, e = .returned (.bool b) ∧ (b = true ↔ P)) ∧ Frm [] w w'

set_option maxRecDepth 100000 in
set_option maxHeartbeats 4000000 in
theorem right_any (a : Option Addr) (n c : Nat) (X : List Nx) (F : List Nat) (w : World) (h : NL w F a X) (hn : n = X.length) (hfit : n ≤ 9223372036854775807) :
    Calls Try.prog 39 #[.slice a n c] w (BoolF w (LoadsP (nds X))) := by
  have H := Lib.hid h; clear h
  have HN := Lib.hid hn; clear hn
  by_cases hbig : 256 < n
  · have HE : Hid (∀ z, Frm [] w z → BoolF w (LoadsP (nds X)) (.returned (.bool false)) z) := Lib.hid fun z hz => ⟨⟨false, rfl, by simp; intro h; have := h.1; rw [nds_len', ← HN.out] at this; omega⟩, hz⟩
    go_enter Try.func39, Try.ntmps39
    go_wp2
    go_ret
    exact HE.out _ (Frm.refl _ _)
  · go_enter Try.func39, Try.ntmps39
    go_wp2
    go_loopw [10] (fun u10 wr => ∃ k : Nat, k ≤ n ∧ u10 = .int .i64 (k : Nat) ∧ Hid (∀ i, i < k → okAt (nds X) i) ∧ Frm [] w wr) (fun u10 _ => n - (intOf u10).toNat)
    case atStart => exact ⟨0, Nat.zero_le _, rfl, Lib.hid (fun i hi => absurd hi (Nat.not_lt_zero _)), Frm.refl _ _⟩
    case round =>
      obtain ⟨k, hk, rfl, HOK, hf⟩ := hrel
      have HF := Lib.hid hf; clear hf
      by_cases hlt : k < n
      · have hkX : k < X.length := by have := HN.out; omega
        obtain ⟨b, off, rfl, p0, p1, p2, p3, ok⟩ := (H.out.keep (F' := F) HF.out (by simp) (fun x h => .inl h)).at hkX
        have hokd : okAt (nds X) k ↔ lenC (X.getD k default).t.k.size (X.getD k default).t.v.length = 0 ∧ (X.getD k default).t.ver ≠ 0 ∧ (0 < k → kl ((nds X).getD (k - 1) default).k (X.getD k default).t.k = true) := by
          unfold okAt; rw [nds_getD (i := k)]
        have hvl := ok.bytes.2.1
        have hkl := ok.key
        have hpk : ((nds X).getD (k - 1) default).k = (X.getD (k - 1) default).t.k := by rw [nds_getD]
        have hprev : 0 < k → wr.cell? ⟨b, off + (k - 1) * 4, none⟩ = some (.string ((nds X).getD (k - 1) default).k) := fun h0 => by
          obtain ⟨b', off', e, q0, _⟩ := (H.out.keep (F' := F) HF.out (by simp) (fun x h => .inl h)).at (i := k - 1) (by omega)
          cases e
          rw [hpk]; exact q0
        obtain ⟨x, hx⟩ : ∃ x, x = X.getD k default := ⟨_, rfl⟩
        rw [← hx] at p0 p1 p2 p3 hokd hvl hkl
        obtain ⟨⟨xk, xv, xver, xown⟩, xa, xc⟩ := x
        simp only at p0 p1 p2 p3 hokd hvl hkl
        obtain ⟨m, hm⟩ : ∃ m, m = xv.length := ⟨_, rfl⟩
        rw [← hm] at p1 hokd hvl
        obtain ⟨pk, hpke⟩ : ∃ pk, pk = ((nds X).getD (k - 1) default).k := ⟨_, rfl⟩
        rw [← hpke] at hokd hprev
        have HOD := Lib.hid hokd
        have HPREV := Lib.hid hprev
        obtain ⟨g, hg⟩ : ∃ g, g = wr.heap.size := ⟨_, rfl⟩
        obtain ⟨w2, hw2⟩ : ∃ w2, w2 = wr.alloc (.cells #[.string xk, .slice xa m xc, .int .u64 (xver : Nat), .int .u64 (xown : Nat)] 44) := ⟨_, rfl⟩
        have hW2 := Whole.made wr 44 #[.string xk, .slice xa m xc, .int .u64 (xver : Nat), .int .u64 (xown : Nat)]
        rw [← hw2, ← hg] at hW2
        have hf2 : Frm [] wr w2 := by rw [hw2]; exact (Frm.refl _ _).alloc _
        have e0 := hW2.cell 0
        have e1 := hW2.cell 1
        have e2 := hW2.cell 2
        simp at e0 e1 e2
        have HW2 := Lib.hid hw2
        have HG := Lib.hid hg
        have HF2 := Lib.hid (HF.out.trans hf2 (U := []) (by simp) (by simp))
        have HLE := Lib.hid (fun z => lengths_any xk xa m xc z hkl hvl)
        have HPV2 : Hid (0 < k → w2.cell? ⟨b, off + (k - 1) * 4, none⟩ = some (.string pk)) := Lib.hid fun h0 => (hf2.cell (block_lt_of_cell (HPREV.out h0)) (by simp)).trans (HPREV.out h0)
        have HBAD : Hid (¬ okAt (nds X) k → ∀ z, Frm [] w z → BoolF w (LoadsP (nds X)) (.returned (.bool false)) z) := Lib.hid fun hno z hz => ⟨⟨false, rfl, by simp; intro h; exact hno (h.2 k (by rw [nds_len']; exact hkX))⟩, hz⟩
        have HNEXT : Hid (okAt (nds X) k → ∀ i, i < k + 1 → okAt (nds X) i) := Lib.hid fun ho i hi => by
          rcases Nat.lt_or_ge i k with h | h
          · exact HOK.out i h
          · have : i = k := by omega
            subst this; exact ho
        have hs1 : 0 < k → IntKind.i64.wrap ((k : Int) - 1) = ((k - 1 : Nat) : Int) := fun h0 => by rw [IntWalk.i64_in _ (by omega)]; omega
        have HS1 := Lib.hid hs1
        clear hokd hprev hx hm hpke hpk ok hw2 hg hW2 hf2 hkX hvl hkl hs1 HPREV
        by_cases hver : xver = 0
        · have hno : ¬ okAt (nds X) k := fun h => (HOD.out.1 h).2.1 hver
          have HB := Lib.hid (HBAD.out hno)
          have hv0 : ((xver : Int) == 0) = true := by rw [beq_iff_eq]; omega
          clear hno hver
          go_wp2
          rw [← HW2.out, ← HG.out]
          go_quiet (fail)
          go_wp2
          go_ret
          exact HB.out _ (HF2.out.drewN _)
        have hv0 : ((xver : Int) == 0) = false := by rw [beq_eq_false_iff_ne]; omega
        by_cases hlc : lenC xk.size m = 0
        · have HL0 : Hid (∀ z, Calls Try.prog 29 #[.string xk, .slice xa m xc] z fun e w' => e = .returned (.int .i64 0) ∧ w' = z) := Lib.hid fun z => (HLE.out z).mono fun _ _ h => ⟨by rw [h.1, hlc]; rfl, h.2.symm⟩
          by_cases hk0 : k = 0
          · have hyes : okAt (nds X) k := HOD.out.2 ⟨hlc, hver, fun h => by omega⟩
            have HY := Lib.hid (HNEXT.out hyes)
            have hk1 : ¬ 0 < k := by omega
            clear hyes hlc hver hk0
            go_wp2
            rw [← HW2.out, ← HG.out]
            go_quiet ((go_at_call 29; exact Calls.quiet_of_same (HL0.out _)))
            go_wp2
            go_roundw
            case rel => exact ⟨k + 1, by omega, by go_num, HY, HF2.out.drewN _⟩
            case measure => simp [intOf]; omega
          · have hk1 : 0 < k := by omega
            have e3 := HPV2.out hk1
            have hs2 := HS1.out hk1
            obtain ⟨j, hj⟩ : ∃ j, j = k - 1 := ⟨_, rfl⟩
            rw [← hj] at e3 hs2
            have hjn : j < n := by omega
            have hs3 : (k : Int) - 1 = (j : Int) := by omega
            have HK := Lib.hid (kl_cases pk xk)
            rcases HK.out with ⟨hkl, hb1, hb2⟩ | ⟨hkl, hb1⟩ | ⟨hkl, hb1, hb2⟩
            · have hyes : okAt (nds X) k := HOD.out.2 ⟨hlc, hver, fun _ => hkl⟩
              have HY := Lib.hid (HNEXT.out hyes)
              clear hyes hlc hver hkl hj hk0
              go_wp2
              rw [← HW2.out, ← HG.out]
              go_quiet ((go_at_call 29; exact Calls.quiet_of_same (HL0.out _)))
              go_wp2
              go_roundw
              case rel => exact ⟨k + 1, by omega, by go_num, HY, HF2.out.drewN _⟩
              case measure => simp [intOf]; omega
            · have hno : ¬ okAt (nds X) k := fun h => by have := (HOD.out.1 h).2.2 hk1; rw [hkl] at this; cases this
              have HB := Lib.hid (HBAD.out hno)
              clear hno hlc hver hkl hj hk0
              go_wp2
              rw [← HW2.out, ← HG.out]
              go_quiet ((go_at_call 29; exact Calls.quiet_of_same (HL0.out _)))
              go_wp2
              go_ret
              exact HB.out _ (HF2.out.drewN _)
            · have hno : ¬ okAt (nds X) k := fun h => by have := (HOD.out.1 h).2.2 hk1; rw [hkl] at this; cases this
              have HB := Lib.hid (HBAD.out hno)
              clear hno hlc hver hkl hj hk0
              go_wp2
              rw [← HW2.out, ← HG.out]
              go_quiet ((go_at_call 29; exact Calls.quiet_of_same (HL0.out _)))
              go_wp2
              go_ret
              exact HB.out _ (HF2.out.drewN _)
        · have hno : ¬ okAt (nds X) k := fun h => hlc (HOD.out.1 h).1
          have HB := Lib.hid (HBAD.out hno)
          obtain ⟨lc, hlce⟩ : ∃ lc, lc = lenC xk.size m := ⟨_, rfl⟩
          rw [← hlce] at hlc
          have HL0 : Hid (∀ z, Calls Try.prog 29 #[.string xk, .slice xa m xc] z fun e w' => e = .returned (.int .i64 (lc : Nat)) ∧ w' = z) := Lib.hid fun z => (HLE.out z).mono fun _ _ h => ⟨by rw [h.1, hlce], h.2.symm⟩
          have hl0 : ((lc : Int) != 0) = true := by rw [bne_iff_ne]; omega
          clear hno hver hlc hlce
          go_wp2
          rw [← HW2.out, ← HG.out]
          go_quiet ((go_at_call 29; exact Calls.quiet_of_same (HL0.out _)))
          go_wp2
          go_ret
          exact HB.out _ (HF2.out.drewN _)
      · obtain rfl : k = n := by omega
        have HE : Hid (BoolF w (LoadsP (nds X)) (.returned (.bool true)) wr) := Lib.hid ⟨⟨true, rfl, by simp; exact ⟨by rw [nds_len', ← HN.out]; omega, fun i hi => HOK.out i (by rw [nds_len', ← HN.out] at hi; exact hi)⟩⟩, HF.out⟩
        go_wp2
        go_ret
        exact HE.out
end Go.Proofs.Ytchhbmhnjknhaaa
