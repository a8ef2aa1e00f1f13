/- Contract of the reference's Loads. -/
import Derived.Test.YtomgiockelhfiaaGreatMX
namespace Go.Proofs.YtomgiockelhfiaaGreat
open Go.RowKit
set_option maxRecDepth 100000

set_option maxRecDepth 100000 in
set_option maxHeartbeats 4000000 in
theorem rloads_any (a : Option Addr) (n c : Nat) (X : List Nx) (F : List Nat) (w : World) (h : NL w F a X) (hn : n = X.length) (hfit : n ≤ 9223372036854775807) :
    Calls Tryz.prog 143 #[.slice a n c] w (BoolF w (LoadsP (nds X))) := by
  have H := Lib.hid h; clear h
  have HN := Lib.hid hn; clear hn
  by_cases hbig : 256 < n
  · have HE : Hid (∀ z, Frm [] w z → BoolF w (LoadsP (nds X)) (.returned (.bool false)) z) := Lib.hid fun z hz => ⟨⟨false, rfl, by simp; intro h; have := h.1; rw [nds_len', ← HN.out] at this; omega⟩, hz⟩
    go_enter Tryz.func143, Tryz.ntmps143
    go_wp2
    go_ret
    exact HE.out _ (Frm.refl _ _)
  · go_enter Tryz.func143, Tryz.ntmps143
    go_wp2
    go_loopw [3] (fun u3 wr => ∃ k : Nat, k ≤ n ∧ u3 = .int .i64 (k : Nat) ∧ Hid (∀ i, i < k → okAt (nds X) i) ∧ Frm [] w wr) (fun u3 _ => n - (intOf u3).toNat)
    case atStart => exact ⟨0, Nat.zero_le _, rfl, Lib.hid (fun i hi => absurd hi (Nat.not_lt_zero _)), Frm.refl _ _⟩
    case round =>
      obtain ⟨k, hk, rfl, HOK, hf⟩ := hrel
      have HF := Lib.hid hf; clear hf
      by_cases hlt : k < n
      · have hkX : k < X.length := by have := HN.out; omega
        obtain ⟨b, off, rfl, p0, p1, p2, p3, ok⟩ := (H.out.keep (F' := F) HF.out (by simp) (fun x h => .inl h)).at hkX
        have hokd : okAt (nds X) k ↔ lenC (X.getD k default).t.k.size (X.getD k default).t.v.length = 0 ∧ (X.getD k default).t.ver ≠ 0 ∧ (0 < k → kl ((nds X).getD (k - 1) default).k (X.getD k default).t.k = true) := by
          unfold okAt; rw [nds_getD (i := k)]
        have hvl := ok.bytes.2.1
        have hkl := ok.key
        have hpk : ((nds X).getD (k - 1) default).k = (X.getD (k - 1) default).t.k := by rw [nds_getD]
        have hprev : 0 < k → wr.cell? ⟨b, off + (k - 1) * 4, none⟩ = some (.string ((nds X).getD (k - 1) default).k) := fun h0 => by
          obtain ⟨b', off', e, q0, _⟩ := (H.out.keep (F' := F) HF.out (by simp) (fun x h => .inl h)).at (i := k - 1) (by omega)
          cases e
          rw [hpk]; exact q0
        obtain ⟨x, hx⟩ : ∃ x, x = X.getD k default := ⟨_, rfl⟩
        rw [← hx] at p0 p1 p2 p3 hokd hvl hkl
        obtain ⟨⟨xk, xv, xver, xown⟩, xa, xc⟩ := x
        simp only at p0 p1 p2 p3 hokd hvl hkl
        obtain ⟨m, hm⟩ : ∃ m, m = xv.length := ⟨_, rfl⟩
        rw [← hm] at p1 hokd hvl
        obtain ⟨pk, hpke⟩ : ∃ pk, pk = ((nds X).getD (k - 1) default).k := ⟨_, rfl⟩
        rw [← hpke] at hokd hprev
        have HOD := Lib.hid hokd
        have HPV2 := Lib.hid hprev
        have HBAD : Hid (¬ okAt (nds X) k → ∀ z, Frm [] w z → BoolF w (LoadsP (nds X)) (.returned (.bool false)) z) := Lib.hid fun hno z hz => ⟨⟨false, rfl, by simp; intro h; exact hno (h.2 k (by rw [nds_len']; exact hkX))⟩, hz⟩
        have HNEXT : Hid (okAt (nds X) k → ∀ i, i < k + 1 → okAt (nds X) i) := Lib.hid fun ho i hi => by
          rcases Nat.lt_or_ge i k with h | h
          · exact HOK.out i h
          · have : i = k := by omega
            subst this; exact ho
        have hs1 : 0 < k → IntKind.i64.wrap ((k : Int) - 1) = ((k - 1 : Nat) : Int) := fun h0 => by rw [IntWalk.i64_in _ (by omega)]; omega
        have HS1 := Lib.hid hs1
        clear hokd hprev hx hm hpke hpk ok hkX hs1
        by_cases hlc : lenC xk.size m = 0
        · have hl2 : 1 ≤ xk.size ∧ xk.size ≤ 64 ∧ m ≤ 3840 := by
            unfold lenC at hlc
            split at hlc
            · omega
            · split at hlc <;> omega
          obtain ⟨l1, l2, l3⟩ := hl2
          by_cases hver : xver = 0
          · have hno : ¬ okAt (nds X) k := fun h => (HOD.out.1 h).2.1 hver
            have HB := Lib.hid (HBAD.out hno)
            have hv0 : ((xver : Int) == 0) = true := by rw [beq_iff_eq]; omega
            clear hno hver hlc
            go_wp2
            go_ret
            exact HB.out _ HF.out
          have hv0 : ((xver : Int) == 0) = false := by rw [beq_eq_false_iff_ne]; omega
          by_cases hk0 : k = 0
          · have hyes : okAt (nds X) k := HOD.out.2 ⟨hlc, hver, fun h => by omega⟩
            have HY := Lib.hid (HNEXT.out hyes)
            have hk1 : ¬ 0 < k := by omega
            clear hyes hlc hver hk0
            go_wp2
            go_quiet (fail)
            go_wp2
            go_roundw
            case rel => exact ⟨k + 1, by omega, by go_num, HY, HF.out.drewN _⟩
            case measure => simp [intOf]; omega
          · have hk1 : 0 < k := by omega
            have e3 := HPV2.out hk1
            have hs2 := HS1.out hk1
            obtain ⟨j, hj⟩ : ∃ j, j = k - 1 := ⟨_, rfl⟩
            rw [← hj] at e3 hs2
            have hjn : j < n := by omega
            have hs3 : (k : Int) - 1 = (j : Int) := by omega
            cases hkk : kl pk xk
            · have hno : ¬ okAt (nds X) k := fun h => by have := (HOD.out.1 h).2.2 hk1; rw [hkk] at this; cases this
              have HB := Lib.hid (HBAD.out hno)
              have hb1 : Op.bytesLess pk.toList xk.toList = false := hkk
              clear hno hlc hver hkk hj hk0
              go_wp2
              go_quiet (fail)
              go_wp2
              go_ret
              exact HB.out _ (HF.out.drewN _)
            · have hyes : okAt (nds X) k := HOD.out.2 ⟨hlc, hver, fun _ => hkk⟩
              have HY := Lib.hid (HNEXT.out hyes)
              have hb1 : Op.bytesLess pk.toList xk.toList = true := hkk
              clear hyes hlc hver hkk hj hk0
              go_wp2
              go_quiet (fail)
              go_wp2
              go_roundw
              case rel => exact ⟨k + 1, by omega, by go_num, HY, HF.out.drewN _⟩
              case measure => simp [intOf]; omega
        · have hno : ¬ okAt (nds X) k := fun h => hlc (HOD.out.1 h).1
          have HB := Lib.hid (HBAD.out hno)
          have hl2 : xk.size < 1 ∨ (¬ xk.size < 1 ∧ 64 < xk.size) ∨ (¬ xk.size < 1 ∧ ¬ 64 < xk.size ∧ 3840 < m) := by
            unfold lenC at hlc
            split at hlc
            · omega
            · split at hlc <;> omega
          clear hno hlc
          rcases hl2 with l1 | ⟨l1, l2⟩ | ⟨l1, l2, l3⟩
          all_goals
            go_wp2
            go_ret
            exact HB.out _ HF.out
      · obtain rfl : k = n := by omega
        have HE : Hid (BoolF w (LoadsP (nds X)) (.returned (.bool true)) wr) := Lib.hid ⟨⟨true, rfl, by simp; exact ⟨by rw [nds_len', ← HN.out]; omega, fun i hi => HOK.out i (by rw [nds_len', ← HN.out] at hi; exact hi)⟩⟩, HF.out⟩
        go_wp2
        go_ret
        exact HE.out
end Go.Proofs.YtomgiockelhfiaaGreat
