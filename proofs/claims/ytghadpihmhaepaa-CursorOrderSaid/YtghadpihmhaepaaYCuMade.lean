/- Contract of the law's Made: right ledgers. Written by a program out of XLdMade. -/
import Derived.Test.YtghadpihmhaepaaYLdMade
import Derived.Test.YtghadpihmhaepaaYLdMath3
namespace Go.Proofs.Ytghadpihmhaepaa
open Go.RowKit
set_option maxRecDepth 100000

/-- What Made answers: right ledgers, few, of few entries. -/
def Made14 (w : World) (e : Ending) (w' : World) : Prop := ∃ (a : Option Addr) (k cap : Nat) (X : List Ld), e = .returned (.slice a k cap) ∧ k = X.length ∧ k ≤ 13 ∧ (∀ x ∈ X, x.n ≤ 5) ∧ LdOwn w' w.heap.size 69 [] a cap X ∧ Frm [] w w' ∧ RtLd X
structure Md14 (w wr : World) (k id : Nat) (a : Option Addr) (cap : Nat) (X : List Ld) : Prop where
  own : LdOwn wr w.heap.size 69 [] a cap X
  len : X.length = k
  few : ∀ x ∈ X, x.n ≤ 5
  frm : Frm [] w wr
  grw : Grown X k id
theorem rtld_last {X : List Ld} {j : Nat} (h : RtLd X) (hj : j + 1 = X.length) : RtLd (X.set j ⟨(X.getD j default).id, false, 0⟩) := by
  have gd : ∀ i, (X.set j ⟨(X.getD j default).id, false, 0⟩).getD i default = if i = j then ⟨(X.getD j default).id, false, 0⟩ else X.getD i default := fun i => by
    rw [List.getD_eq_getElem?_getD, List.getElem?_set, List.getD_eq_getElem?_getD]
    by_cases hij : j = i
    · subst hij; simp [show j < X.length by omega]
    · rw [if_neg hij, if_neg (fun h => hij h.symm), List.getD_eq_getElem?_getD]
  have gi : ∀ i, ((X.set j ⟨(X.getD j default).id, false, 0⟩).getD i default).id = (X.getD i default).id := fun i => by
    rw [gd]; split
    · rename_i h; rw [h]
    · rfl
  refine ⟨by rw [List.length_set]; exact h.1, fun i hi => ?_⟩
  rw [List.length_set] at hi
  obtain ⟨h1, h2, h3, h4⟩ := h.2 i hi
  rw [gi, gi]
  refine ⟨h1, ?_, h3, ?_⟩
  · rw [gd]; split
    · exact Nat.zero_le _
    · exact h2
  · rw [gd, List.length_set]
    split
    · exact fun _ => ⟨by omega, rfl⟩
    · exact h4
set_option maxHeartbeats 8000000 in
theorem made14_any (ac : Option Addr) (n capc : Nat) (cs : List Nat) (op : Bool) (w : World) (hn : n = cs.length) (hb : Bytes w ac cs) :
    Calls Try.prog 10 #[.slice ac n capc, .bool op] w (Made14 w) := by
  have hn63 : n ≤ 9223372036854775807 := by rw [hn]; exact hb.2.1
  have HN := Lib.hid hn; clear hn
  have HB := Lib.hid hb; clear hb
  obtain ⟨i0, hi, hz0, hz1, hz2⟩ := info_parts infoLd
  have HI := Lib.hid hi; clear hi
  have HZ0 := Lib.hid hz0; clear hz0
  have HZ1 := Lib.hid hz1; clear hz1
  have HZ2 := Lib.hid hz2; clear hz2
  go_enter Try.func10, Try.ntmps10
  go_wp2
  go_loopw [5, 6, 12] (fun s5 s6 s12 wr => ∃ (k : Nat) (a : Option Addr) (cap id : Nat) (X : List Ld), k ≤ n ∧ k ≤ 13 ∧ id ≤ k * 4 ∧ s12 = .int .i64 (k : Nat) ∧ s5 = .slice a k cap ∧ s6 = .int .u64 (id : Nat) ∧ Hid (Md14 w wr k id a cap X)) (fun _ _ s12 _ => n - (intOf s12).toNat)
  case atStart => exact ⟨0, none, 0, 0, [], Nat.zero_le _, by omega, by omega, rfl, rfl, rfl, Lib.hid ⟨LdOwn.nil _ _ _ _, rfl, by simp, Frm.refl _ _, Grown.nil _⟩⟩
  case round =>
    obtain ⟨k, a, cap, id, X, hk, hk13, hid4, rfl, rfl, rfl, HG⟩ := hrel
    by_cases hlt : k < n
    · have hlt' : (k : Int) < (n : Int) := by omega
      obtain ⟨b, off, rfl, p0, hc8⟩ : ∃ b off, ac = some ⟨b, off, none⟩ ∧ wr.cell? ⟨b, off + k, none⟩ = some (.int .u8 (cs.getD k 0 : Nat)) ∧ cs.getD k 0 < 256 := by
        rcases (HG.out.frm.bytes HB.out (by simp)).2.2 with h0 | ⟨b, off, h1, h2⟩
        · have := HN.out; rw [h0] at this; simp at this; omega
        · exact ⟨b, off, h1, h2 k (by have := HN.out; omega), getD_lt HB.out.1 k⟩
      generalize cs.getD k 0 = c at p0 hc8
      by_cases h12 : 12 < k
      · have d12 : decide (12 < k) = true := decide_eq_true h12
        have d12' : (12 : Int) < (k : Int) := by omega
        have hkl := HG.out.len
        have O := Lib.hid HG.out.own
        have FW := Lib.hid HG.out.frm
        have K13 : Hid (k ≤ 13) := Lib.hid (by omega)
        have N5 := Lib.hid HG.out.few
        have GR := Lib.hid HG.out.grw.right
        cases op
        · have FIN : Hid (Made14 w (.returned (.slice a k cap)) wr) := Lib.hid ⟨a, k, cap, X, rfl, hkl.symm, K13.out, N5.out, O.out, FW.out, GR.out⟩
          clear hkl
          go_wp2
          go_ret
          exact FIN.out
        · rcases Nat.eq_zero_or_pos k with h0 | h0
          · subst h0
            have FIN : Hid (Made14 w (.returned (.slice a (0 : Nat) cap)) wr) := Lib.hid ⟨a, 0, cap, X, rfl, hkl.symm, K13.out, N5.out, O.out, FW.out, GR.out⟩
            clear hkl
            first
              | (exfalso; omega)
              | (go_wp2
                 go_ret
                 exact FIN.out)
          · obtain ⟨j, hj⟩ : ∃ j, j = k - 1 := ⟨_, rfl⟩
            obtain ⟨g, rfl⟩ := O.out.zero (by omega)
            have hjX : j < X.length := by omega
            have d0 : decide (0 < k) = true := decide_eq_true h0
            have d0' : decide ((0 : Int) < (k : Int)) = true := decide_eq_true (by omega)
            have s1 : (k : Int) - 1 = (j : Int) := by omega
            have s2 : (j : Int) < (k : Int) := by omega
            have s3 : j < k := by omega
            have hwj : IntKind.i64.wrap (j : Int) = (j : Int) := by have := K13.out; simp [IntKind.wrap, IntKind.bits, IntKind.signed]; omega
            obtain ⟨v0, v1, v2⟩ := ldc_at X j hjX
            have y0 := (O.out.own.cellAt (j * 3) (by omega)).trans v0
            have y1 := (O.out.own.cellAt (j * 3 + 1) (by omega)).trans v1
            have y2 := (O.out.own.cellAt (j * 3 + 2) (by omega)).trans v2
            have r1 := O.out.own.frozenAt (j * 3 + 1)
            have r2 := O.out.own.frozenAt (j * 3 + 2)
            have GB := Lib.hid (O.out.blk_lt g (by simp)).1
            have HY : Hid ((X.getD j default).fits) := Lib.hid (ld_fits_at O.out.fits j)
            have P1 := O.out.put2 hjX false 0 (by omega)
            have z2 := (P1.1.own.cellAt (j * 3 + 2) (by rw [List.length_set]; omega)).trans (by rw [(ldc_at _ j (by rw [List.length_set]; exact hjX)).2.2])
            have q2 := P1.1.own.frozenAt (j * 3 + 2)
            have P2 := Lib.hid P1.2
            have FIN : Hid (Made14 w (.returned (.slice (some ⟨g, 0, none⟩) k cap)) ((wr.setCell ⟨g, j * 3 + 1, none⟩ (.bool false)).setCell ⟨g, j * 3 + 2, none⟩ (.int .u64 0))) := Lib.hid ⟨_, k, cap, _, rfl, by rw [List.length_set]; exact hkl.symm, K13.out, fun x hx => by
              rcases List.mem_or_eq_of_mem_set hx with h1 | rfl
              · exact N5.out x h1
              · exact Nat.zero_le _, P2.out, (FW.out.setCell (.inr GB.out) _).setCell (.inr GB.out) _, rtld_last GR.out (by omega)⟩
            clear hkl hj hjX v0 v1 v2 P1 h0
            go_wp2
            go_ret
            exact FIN.out
      have d12 : decide (12 < k) = false := decide_eq_false h12
      have d12' : ¬ (12 : Int) < (k : Int) := by omega
      obtain ⟨q, hq⟩ : ∃ q, q = c / 64 := ⟨_, rfl⟩
      have hq1 : (c : Int) / 64 = (q : Int) := by omega
      have hq2 : (c : Int).tdiv 64 = (q : Int) := by rw [hq]; rfl
      have hq3 : IntKind.u8.wrap (q : Int) = (q : Int) := by simp [IntKind.wrap, IntKind.bits, IntKind.signed]; omega
      have hq4 : IntKind.u64.wrap (q : Int) = (q : Int) := by simp [IntKind.wrap, IntKind.bits, IntKind.signed]; omega
      obtain ⟨q1, hqq⟩ : ∃ q1, q1 = 1 + q := ⟨_, rfl⟩
      have hq5 : 1 + (q : Int) = (q1 : Int) := by omega
      have hq6 : IntKind.u64.wrap (q1 : Int) = (q1 : Int) := by simp [IntKind.wrap, IntKind.bits, IntKind.signed]; omega
      have hq7 : IntKind.u64.wrap (1 + (q : Int)) = (q1 : Int) := by rw [hq5]; exact hq6
      obtain ⟨id1, hid1⟩ : ∃ id1, id1 = id + q1 := ⟨_, rfl⟩
      have hi1 : (id : Int) + (q1 : Int) = (id1 : Int) := by omega
      have hi2 : IntKind.u64.wrap (id1 : Int) = (id1 : Int) := by simp [IntKind.wrap, IntKind.bits, IntKind.signed]; omega
      have hi3 : IntKind.u64.wrap ((id : Int) + (q1 : Int)) = (id1 : Int) := by rw [hi1]; exact hi2
      obtain ⟨r, hr⟩ : ∃ r, r = c % 6 := ⟨_, rfl⟩
      have hr1 : (c : Int) % 6 = (r : Int) := by omega
      have hr2 : (c : Int).tmod 6 = (r : Int) := by rw [hr]; rfl
      have hr3 : IntKind.u8.wrap (r : Int) = (r : Int) := by simp [IntKind.wrap, IntKind.bits, IntKind.signed]; omega
      have hr4 : IntKind.u64.wrap (r : Int) = (r : Int) := by simp [IntKind.wrap, IntKind.bits, IntKind.signed]; omega
      have ID4 : Hid (id1 ≤ (k + 1) * 4) := Lib.hid (by omega)
      have R5 : Hid (r ≤ 5) := Lib.hid (by omega)
      have KN : Hid (k + 1 ≤ n ∧ k + 1 ≤ 13) := Lib.hid ⟨by omega, by omega⟩
      have hfit : k + 1 ≤ 1000000000 := by omega
      have hbz : w.heap.size ≤ (wr.alloc (.cells #[.int .u64 (id1 : Nat), .bool true, .int .u64 (r : Nat)] 69)).heap.size := by have := HG.out.frm.size; simp; omega
      have HLEN : Hid (X.length = k) := Lib.hid HG.out.len
      have OWN : Hid ((wr.alloc (.cells #[.int .u64 (id1 : Nat), .bool true, .int .u64 (r : Nat)] 69)).ownsRow w.heap.size 69 3 (.slice a k cap) k (ldc X)) := Lib.hid (by
        have := (HG.out.own.keep (S := []) (F' := []) ((Frm.refl [] wr).alloc (.cells #[.int .u64 (id1 : Nat), .bool true, .int .u64 (r : Nat)] 69)) (by simp) (by simp)).own
        rwa [HLEN.out] at this)
      have ONE : Hid (ValsAt (wr.alloc (.cells #[.int .u64 (id1 : Nat), .bool true, .int .u64 (r : Nat)] 69)) (some ⟨wr.heap.size, 0, none⟩) (ldc [⟨id1, true, r⟩])) := Lib.hid (ldcvals_one wr ⟨id1, true, r⟩ 69)
      have GNX : Hid (Grown (X ++ [⟨id1, true, r⟩]) (k + 1) id1) := Lib.hid (HG.out.grw.more (by omega) (y := ⟨id1, true, r⟩) (by
        have h1 := HG.out.grw.low
        show _ < id1
        omega) (by show r ≤ _; omega) rfl (Nat.le_refl _) ⟨by show id1 < _; omega, by show r < _; omega⟩)
      clear hq hqq hid1 hr hid4 hc8 h12
      go_wp2_with (at_builtin; refine wpList_appS (by rfl) (.tmp 25) (.tmp 31) 30 rfl w.heap.size 69 i0 (.agg #[.int .u64 0, .bool false, .int .u64 0]) 3 24 Try.underlying30 HI.out HZ0.out rfl (by decide) HZ1.out HZ2.out (by decide) (.slice a k cap) k _ rfl OWN.out _ 1 1 _ rfl ONE.out rfl (ldc_one _) (fun h => by cases h) hfit hbz ?_)
      intro a2 c2 w2 happ
      have g3 := (HG.out.own.keep (S := []) (F' := []) ((Frm.refl [] wr).alloc (.cells #[.int .u64 (id1 : Nat), .bool true, .int .u64 (r : Nat)] 69)) (by simp) (by simp)).app (Y := [⟨id1, true, r⟩]) HLEN.out.symm (by intro y hy; simp at hy; subst hy; exact ⟨by show id1 < _; have := ID4.out; have := KN.out; omega, by show r < _; have := R5.out; omega⟩) rfl (by simp) happ
      have NX : Hid (Md14 w w2 (k + 1) id1 a2 c2 (X ++ [⟨id1, true, r⟩])) := Lib.hid ⟨g3.1, by rw [List.length_append, HLEN.out]; rfl, fun x hx => by
          rcases List.mem_append.1 hx with h1 | h1
          · exact HG.out.few x h1
          · rw [List.mem_singleton.1 h1]; exact R5.out, (HG.out.frm.alloc (.cells #[.int .u64 (id1 : Nat), .bool true, .int .u64 (r : Nat)] 69)).trans g3.2.1 (by simp) (fun x hx => .inr (HG.out.own.blk_lt x hx).1), GNX.out⟩
      clear happ g3 hbz OWN ONE
      go_wp2
      go_roundw
      case rel => exact ⟨k + 1, a2, c2, id1, _, KN.out.1, KN.out.2, ID4.out, by go_num, by rfl, rfl, NX⟩
      case measure => have := KN.out.1; simp [intOf]; omega
    · obtain rfl : k = n := by omega
      have hkl := HG.out.len
      have O := Lib.hid HG.out.own
      have FW := Lib.hid HG.out.frm
      have K13 : Hid (k ≤ 13) := Lib.hid (by omega)
      have N5 := Lib.hid HG.out.few
      have GR := Lib.hid HG.out.grw.right
      cases op
      · have FIN : Hid (Made14 w (.returned (.slice a k cap)) wr) := Lib.hid ⟨a, k, cap, X, rfl, hkl.symm, K13.out, N5.out, O.out, FW.out, GR.out⟩
        clear hkl
        go_wp2
        go_ret
        exact FIN.out
      · rcases Nat.eq_zero_or_pos k with h0 | h0
        · subst h0
          have FIN : Hid (Made14 w (.returned (.slice a (0 : Nat) cap)) wr) := Lib.hid ⟨a, 0, cap, X, rfl, hkl.symm, K13.out, N5.out, O.out, FW.out, GR.out⟩
          clear hkl
          first
            | (exfalso; omega)
            | (go_wp2
               go_ret
               exact FIN.out)
        · obtain ⟨j, hj⟩ : ∃ j, j = k - 1 := ⟨_, rfl⟩
          obtain ⟨g, rfl⟩ := O.out.zero (by omega)
          have hjX : j < X.length := by omega
          have d0 : decide (0 < k) = true := decide_eq_true h0
          have d0' : decide ((0 : Int) < (k : Int)) = true := decide_eq_true (by omega)
          have s1 : (k : Int) - 1 = (j : Int) := by omega
          have s2 : (j : Int) < (k : Int) := by omega
          have s3 : j < k := by omega
          have hwj : IntKind.i64.wrap (j : Int) = (j : Int) := by have := K13.out; simp [IntKind.wrap, IntKind.bits, IntKind.signed]; omega
          obtain ⟨v0, v1, v2⟩ := ldc_at X j hjX
          have y0 := (O.out.own.cellAt (j * 3) (by omega)).trans v0
          have y1 := (O.out.own.cellAt (j * 3 + 1) (by omega)).trans v1
          have y2 := (O.out.own.cellAt (j * 3 + 2) (by omega)).trans v2
          have r1 := O.out.own.frozenAt (j * 3 + 1)
          have r2 := O.out.own.frozenAt (j * 3 + 2)
          have GB := Lib.hid (O.out.blk_lt g (by simp)).1
          have HY : Hid ((X.getD j default).fits) := Lib.hid (ld_fits_at O.out.fits j)
          have P1 := O.out.put2 hjX false 0 (by omega)
          have z2 := (P1.1.own.cellAt (j * 3 + 2) (by rw [List.length_set]; omega)).trans (by rw [(ldc_at _ j (by rw [List.length_set]; exact hjX)).2.2])
          have q2 := P1.1.own.frozenAt (j * 3 + 2)
          have P2 := Lib.hid P1.2
          have FIN : Hid (Made14 w (.returned (.slice (some ⟨g, 0, none⟩) k cap)) ((wr.setCell ⟨g, j * 3 + 1, none⟩ (.bool false)).setCell ⟨g, j * 3 + 2, none⟩ (.int .u64 0))) := Lib.hid ⟨_, k, cap, _, rfl, by rw [List.length_set]; exact hkl.symm, K13.out, fun x hx => by
            rcases List.mem_or_eq_of_mem_set hx with h1 | rfl
            · exact N5.out x h1
            · exact Nat.zero_le _, P2.out, (FW.out.setCell (.inr GB.out) _).setCell (.inr GB.out) _, rtld_last GR.out (by omega)⟩
          clear hkl hj hjX v0 v1 v2 P1 h0
          go_wp2
          go_ret
          exact FIN.out
end Go.Proofs.Ytghadpihmhaepaa
