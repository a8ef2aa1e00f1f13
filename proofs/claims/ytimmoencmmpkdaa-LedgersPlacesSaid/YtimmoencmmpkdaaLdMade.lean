/- Contracts of the law's Made, Place. -/
import Derived.Test.YtimmoencmmpkdaaLdOpen
import Derived.Test.YtimmoencmmpkdaaBytes
namespace Go.Proofs.Ytimmoencmmpkdaa
open Go.RowKit
set_option maxRecDepth 100000

/-- What Made answers: few ledgers of few entries. -/
def MadeEnd (w : World) (e : Ending) (w' : World) : Prop := ∃ (a : Option Addr) (k cap : Nat) (X : List Ld), e = .returned (.slice a k cap) ∧ k = X.length ∧ k ≤ 13 ∧ (∀ x ∈ X, x.n ≤ 5) ∧ LdOwn w' w.heap.size 32 [] a cap X ∧ Frm [] w w'
/-- While they are made. -/
structure Md13 (w wr : World) (k : Nat) (a : Option Addr) (cap : Nat) (X : List Ld) : Prop where
  own : LdOwn wr w.heap.size 32 [] a cap X
  len : X.length = k
  few : ∀ x ∈ X, x.n ≤ 5
  frm : Frm [] w wr
/-- Two fields of one in a row are stored. -/
theorem LdOwn.put2 {w : World} {base g cap : Nat} {e : TypeId} {F : List Nat} {X : List Ld} (h : LdOwn w base e F (some ⟨g, 0, none⟩) cap X) {i : Nat} (hi : i < X.length) (c : Bool) (n : Nat) (hn : n < 18446744073709551616) :
    LdOwn (w.setCell ⟨g, i * 3 + 1, none⟩ (.bool c)) base e F (some ⟨g, 0, none⟩) cap (X.set i ⟨(X.getD i default).id, c, (X.getD i default).n⟩) ∧
    LdOwn ((w.setCell ⟨g, i * 3 + 1, none⟩ (.bool c)).setCell ⟨g, i * 3 + 2, none⟩ (.int .u64 (n : Nat))) base e F (some ⟨g, 0, none⟩) cap (X.set i ⟨(X.getD i default).id, c, n⟩) := by
  have hx := ld_fits_at h.fits i
  obtain ⟨v0, v1, v2⟩ := ldc_at X i hi
  have len := ldc_length X
  have set_same : ∀ (l : List Value) (j : Nat) (v : Value), l[j]? = some v → l.set j v = l := fun l j v hv => by
    apply List.ext_getElem?
    intro q
    rw [List.getElem?_set]
    split
    · subst_vars
      split
      · exact hv.symm
      · rename_i h1; rw [List.getElem?_eq_none (by omega)] at hv; cases hv
    · rfl
  have h1 := (h.own.stored (i * 3 + 1) (.bool c)).1
  have h2 := (h1.stored (i * 3 + 2) (.int .u64 (n : Nat))).1
  have e0 : (ldc X).set (i * 3) (.int .u64 ((X.getD i default).id : Nat)) = ldc X := set_same _ _ _ v0
  refine ⟨⟨?_, fun x hm => ?_, h.away⟩, ⟨?_, fun x hm => ?_, h.away⟩⟩
  · rw [ldc_set X i hi, List.length_set, e0]
    simp only
    rw [set_same ((ldc X).set (i * 3 + 1) (.bool c)) (i * 3 + 2) _ (by rw [List.getElem?_set_ne (by omega)]; exact v2)]
    exact h1
  · rcases List.mem_or_eq_of_mem_set hm with h3 | rfl
    · exact h.fits x h3
    · exact hx
  · rw [ldc_set X i hi, List.length_set, e0]
    exact h2
  · rcases List.mem_or_eq_of_mem_set hm with h3 | rfl
    · exact h.fits x h3
    · exact ⟨hx.1, hn⟩
set_option maxHeartbeats 8000000 in
theorem made_any (ac : Option Addr) (n capc : Nat) (cs : List Nat) (op : Bool) (w : World) (hn : n = cs.length) (hb : Bytes w ac cs) :
    Calls Try.prog 12 #[.slice ac n capc, .bool op] w (MadeEnd w) := by
  have hn63 : n ≤ 9223372036854775807 := by rw [hn]; exact hb.2.1
  have HN := Lib.hid hn; clear hn
  have HB := Lib.hid hb; clear hb
  obtain ⟨i0, hi, hz0, hz1, hz2⟩ := info_parts infoLd
  have HI := Lib.hid hi; clear hi
  have HZ0 := Lib.hid hz0; clear hz0
  have HZ1 := Lib.hid hz1; clear hz1
  have HZ2 := Lib.hid hz2; clear hz2
  go_enter Try.func12, Try.ntmps12
  go_wp2
  go_loopw [5, 6, 12] (fun s5 s6 s12 wr => ∃ (k : Nat) (a : Option Addr) (cap id : Nat) (X : List Ld), k ≤ n ∧ k ≤ 13 ∧ id ≤ k * 4 ∧ s12 = .int .i64 (k : Nat) ∧ s5 = .slice a k cap ∧ s6 = .int .u64 (id : Nat) ∧ Hid (Md13 w wr k a cap X)) (fun _ _ s12 _ => n - (intOf s12).toNat)
  case atStart => exact ⟨0, none, 0, 0, [], Nat.zero_le _, by omega, by omega, rfl, rfl, rfl, Lib.hid ⟨LdOwn.nil _ _ _ _, rfl, by simp, Frm.refl _ _⟩⟩
  case round =>
    obtain ⟨k, a, cap, id, X, hk, hk13, hid4, rfl, rfl, rfl, HG⟩ := hrel
    by_cases hlt : k < n
    · have hlt' : (k : Int) < (n : Int) := by omega
      obtain ⟨b, off, rfl, p0, hc8⟩ : ∃ b off, ac = some ⟨b, off, none⟩ ∧ wr.cell? ⟨b, off + k, none⟩ = some (.int .u8 (cs.getD k 0 : Nat)) ∧ cs.getD k 0 < 256 := by
        rcases (HG.out.frm.bytes HB.out (by simp)).2.2 with h0 | ⟨b, off, h1, h2⟩
        · have := HN.out; rw [h0] at this; simp at this; omega
        · exact ⟨b, off, h1, h2 k (by have := HN.out; omega), getD_lt HB.out.1 k⟩
      generalize cs.getD k 0 = c at p0 hc8
      by_cases h12 : 12 < k
      · have d12 : decide (12 < k) = true := decide_eq_true h12
        have d12' : (12 : Int) < (k : Int) := by omega
        have hkl := HG.out.len
        have O := Lib.hid HG.out.own
        have FW := Lib.hid HG.out.frm
        have K13 : Hid (k ≤ 13) := Lib.hid (by omega)
        have N5 := Lib.hid HG.out.few
        cases op
        · have FIN : Hid (MadeEnd w (.returned (.slice a k cap)) wr) := Lib.hid ⟨a, k, cap, X, rfl, hkl.symm, K13.out, N5.out, O.out, FW.out⟩
          clear hkl
          go_wp2
          go_ret
          exact FIN.out
        · rcases Nat.eq_zero_or_pos k with h0 | h0
          · subst h0
            have FIN : Hid (MadeEnd w (.returned (.slice a (0 : Nat) cap)) wr) := Lib.hid ⟨a, 0, cap, X, rfl, hkl.symm, K13.out, N5.out, O.out, FW.out⟩
            clear hkl
            first
              | (exfalso; omega)
              | (go_wp2
                 go_ret
                 exact FIN.out)
          · obtain ⟨j, hj⟩ : ∃ j, j = k - 1 := ⟨_, rfl⟩
            obtain ⟨g, rfl⟩ := O.out.zero (by omega)
            have hjX : j < X.length := by omega
            have d0 : decide (0 < k) = true := decide_eq_true h0
            have d0' : decide ((0 : Int) < (k : Int)) = true := decide_eq_true (by omega)
            have s1 : (k : Int) - 1 = (j : Int) := by omega
            have s2 : (j : Int) < (k : Int) := by omega
            have s3 : j < k := by omega
            have hwj : IntKind.i64.wrap (j : Int) = (j : Int) := by have := K13.out; simp [IntKind.wrap, IntKind.bits, IntKind.signed]; omega
            obtain ⟨v0, v1, v2⟩ := ldc_at X j hjX
            have y0 := (O.out.own.cellAt (j * 3) (by omega)).trans v0
            have y1 := (O.out.own.cellAt (j * 3 + 1) (by omega)).trans v1
            have y2 := (O.out.own.cellAt (j * 3 + 2) (by omega)).trans v2
            have r1 := O.out.own.frozenAt (j * 3 + 1)
            have r2 := O.out.own.frozenAt (j * 3 + 2)
            have GB := Lib.hid (O.out.blk_lt g (by simp)).1
            have HY : Hid ((X.getD j default).fits) := Lib.hid (ld_fits_at O.out.fits j)
            have P1 := O.out.put2 hjX false 0 (by omega)
            have z2 := (P1.1.own.cellAt (j * 3 + 2) (by rw [List.length_set]; omega)).trans (by rw [(ldc_at _ j (by rw [List.length_set]; exact hjX)).2.2])
            have q2 := P1.1.own.frozenAt (j * 3 + 2)
            have P2 := Lib.hid P1.2
            have FIN : Hid (MadeEnd w (.returned (.slice (some ⟨g, 0, none⟩) k cap)) ((wr.setCell ⟨g, j * 3 + 1, none⟩ (.bool false)).setCell ⟨g, j * 3 + 2, none⟩ (.int .u64 0))) := Lib.hid ⟨_, k, cap, _, rfl, by rw [List.length_set]; exact hkl.symm, K13.out, fun x hx => by
              rcases List.mem_or_eq_of_mem_set hx with h1 | rfl
              · exact N5.out x h1
              · exact Nat.zero_le _, P2.out, (FW.out.setCell (.inr GB.out) _).setCell (.inr GB.out) _⟩
            clear hkl hj hjX v0 v1 v2 P1 h0
            go_wp2
            go_ret
            exact FIN.out
      have d12 : decide (12 < k) = false := decide_eq_false h12
      have d12' : ¬ (12 : Int) < (k : Int) := by omega
      obtain ⟨q, hq⟩ : ∃ q, q = c / 64 := ⟨_, rfl⟩
      have hq1 : (c : Int) / 64 = (q : Int) := by omega
      have hq2 : (c : Int).tdiv 64 = (q : Int) := by rw [hq]; rfl
      have hq3 : IntKind.u8.wrap (q : Int) = (q : Int) := by simp [IntKind.wrap, IntKind.bits, IntKind.signed]; omega
      have hq4 : IntKind.u64.wrap (q : Int) = (q : Int) := by simp [IntKind.wrap, IntKind.bits, IntKind.signed]; omega
      obtain ⟨q1, hqq⟩ : ∃ q1, q1 = 1 + q := ⟨_, rfl⟩
      have hq5 : 1 + (q : Int) = (q1 : Int) := by omega
      have hq6 : IntKind.u64.wrap (q1 : Int) = (q1 : Int) := by simp [IntKind.wrap, IntKind.bits, IntKind.signed]; omega
      have hq7 : IntKind.u64.wrap (1 + (q : Int)) = (q1 : Int) := by rw [hq5]; exact hq6
      obtain ⟨id1, hid1⟩ : ∃ id1, id1 = id + q1 := ⟨_, rfl⟩
      have hi1 : (id : Int) + (q1 : Int) = (id1 : Int) := by omega
      have hi2 : IntKind.u64.wrap (id1 : Int) = (id1 : Int) := by simp [IntKind.wrap, IntKind.bits, IntKind.signed]; omega
      have hi3 : IntKind.u64.wrap ((id : Int) + (q1 : Int)) = (id1 : Int) := by rw [hi1]; exact hi2
      obtain ⟨r, hr⟩ : ∃ r, r = c % 6 := ⟨_, rfl⟩
      have hr1 : (c : Int) % 6 = (r : Int) := by omega
      have hr2 : (c : Int).tmod 6 = (r : Int) := by rw [hr]; rfl
      have hr3 : IntKind.u8.wrap (r : Int) = (r : Int) := by simp [IntKind.wrap, IntKind.bits, IntKind.signed]; omega
      have hr4 : IntKind.u64.wrap (r : Int) = (r : Int) := by simp [IntKind.wrap, IntKind.bits, IntKind.signed]; omega
      have ID4 : Hid (id1 ≤ (k + 1) * 4) := Lib.hid (by omega)
      have R5 : Hid (r ≤ 5) := Lib.hid (by omega)
      have KN : Hid (k + 1 ≤ n ∧ k + 1 ≤ 13) := Lib.hid ⟨by omega, by omega⟩
      have hfit : k + 1 ≤ 1000000000 := by omega
      have hbz : w.heap.size ≤ (wr.alloc (.cells #[.int .u64 (id1 : Nat), .bool true, .int .u64 (r : Nat)] 32)).heap.size := by have := HG.out.frm.size; simp; omega
      have HLEN : Hid (X.length = k) := Lib.hid HG.out.len
      have OWN : Hid ((wr.alloc (.cells #[.int .u64 (id1 : Nat), .bool true, .int .u64 (r : Nat)] 32)).ownsRow w.heap.size 32 3 (.slice a k cap) k (ldc X)) := Lib.hid (by
        have := (HG.out.own.keep (S := []) (F' := []) ((Frm.refl [] wr).alloc (.cells #[.int .u64 (id1 : Nat), .bool true, .int .u64 (r : Nat)] 32)) (by simp) (by simp)).own
        rwa [HLEN.out] at this)
      have ONE : Hid (ValsAt (wr.alloc (.cells #[.int .u64 (id1 : Nat), .bool true, .int .u64 (r : Nat)] 32)) (some ⟨wr.heap.size, 0, none⟩) (ldc [⟨id1, true, r⟩])) := Lib.hid (ldcvals_one wr ⟨id1, true, r⟩ 32)
      clear hq hqq hid1 hr hid4 hc8 h12
      go_wp2_with (at_builtin; refine wpList_appS (by rfl) (.tmp 25) (.tmp 31) 22 rfl w.heap.size 32 i0 (.agg #[.int .u64 0, .bool false, .int .u64 0]) 3 24 Try.underlying22 HI.out HZ0.out rfl (by decide) HZ1.out HZ2.out (by decide) (.slice a k cap) k _ rfl OWN.out _ 1 1 _ rfl ONE.out rfl (ldc_one _) (fun h => by cases h) hfit hbz ?_)
      intro a2 c2 w2 happ
      have g3 := (HG.out.own.keep (S := []) (F' := []) ((Frm.refl [] wr).alloc (.cells #[.int .u64 (id1 : Nat), .bool true, .int .u64 (r : Nat)] 32)) (by simp) (by simp)).app (Y := [⟨id1, true, r⟩]) HLEN.out.symm (by intro y hy; simp at hy; subst hy; exact ⟨by show id1 < _; have := ID4.out; have := KN.out; omega, by show r < _; have := R5.out; omega⟩) rfl (by simp) happ
      have NX : Hid (Md13 w w2 (k + 1) a2 c2 (X ++ [⟨id1, true, r⟩])) := Lib.hid ⟨g3.1, by rw [List.length_append, HLEN.out]; rfl, fun x hx => by
          rcases List.mem_append.1 hx with h1 | h1
          · exact HG.out.few x h1
          · rw [List.mem_singleton.1 h1]; exact R5.out, (HG.out.frm.alloc (.cells #[.int .u64 (id1 : Nat), .bool true, .int .u64 (r : Nat)] 32)).trans g3.2.1 (by simp) (fun x hx => .inr (HG.out.own.blk_lt x hx).1)⟩
      clear happ g3 hbz OWN ONE
      go_wp2
      go_roundw
      case rel => exact ⟨k + 1, a2, c2, id1, _, KN.out.1, KN.out.2, ID4.out, by go_num, by rfl, rfl, NX⟩
      case measure => have := KN.out.1; simp [intOf]; omega
    · obtain rfl : k = n := by omega
      have hkl := HG.out.len
      have O := Lib.hid HG.out.own
      have FW := Lib.hid HG.out.frm
      have K13 : Hid (k ≤ 13) := Lib.hid (by omega)
      have N5 := Lib.hid HG.out.few
      cases op
      · have FIN : Hid (MadeEnd w (.returned (.slice a k cap)) wr) := Lib.hid ⟨a, k, cap, X, rfl, hkl.symm, K13.out, N5.out, O.out, FW.out⟩
        clear hkl
        go_wp2
        go_ret
        exact FIN.out
      · rcases Nat.eq_zero_or_pos k with h0 | h0
        · subst h0
          have FIN : Hid (MadeEnd w (.returned (.slice a (0 : Nat) cap)) wr) := Lib.hid ⟨a, 0, cap, X, rfl, hkl.symm, K13.out, N5.out, O.out, FW.out⟩
          clear hkl
          first
            | (exfalso; omega)
            | (go_wp2
               go_ret
               exact FIN.out)
        · obtain ⟨j, hj⟩ : ∃ j, j = k - 1 := ⟨_, rfl⟩
          obtain ⟨g, rfl⟩ := O.out.zero (by omega)
          have hjX : j < X.length := by omega
          have d0 : decide (0 < k) = true := decide_eq_true h0
          have d0' : decide ((0 : Int) < (k : Int)) = true := decide_eq_true (by omega)
          have s1 : (k : Int) - 1 = (j : Int) := by omega
          have s2 : (j : Int) < (k : Int) := by omega
          have s3 : j < k := by omega
          have hwj : IntKind.i64.wrap (j : Int) = (j : Int) := by have := K13.out; simp [IntKind.wrap, IntKind.bits, IntKind.signed]; omega
          obtain ⟨v0, v1, v2⟩ := ldc_at X j hjX
          have y0 := (O.out.own.cellAt (j * 3) (by omega)).trans v0
          have y1 := (O.out.own.cellAt (j * 3 + 1) (by omega)).trans v1
          have y2 := (O.out.own.cellAt (j * 3 + 2) (by omega)).trans v2
          have r1 := O.out.own.frozenAt (j * 3 + 1)
          have r2 := O.out.own.frozenAt (j * 3 + 2)
          have GB := Lib.hid (O.out.blk_lt g (by simp)).1
          have HY : Hid ((X.getD j default).fits) := Lib.hid (ld_fits_at O.out.fits j)
          have P1 := O.out.put2 hjX false 0 (by omega)
          have z2 := (P1.1.own.cellAt (j * 3 + 2) (by rw [List.length_set]; omega)).trans (by rw [(ldc_at _ j (by rw [List.length_set]; exact hjX)).2.2])
          have q2 := P1.1.own.frozenAt (j * 3 + 2)
          have P2 := Lib.hid P1.2
          have FIN : Hid (MadeEnd w (.returned (.slice (some ⟨g, 0, none⟩) k cap)) ((wr.setCell ⟨g, j * 3 + 1, none⟩ (.bool false)).setCell ⟨g, j * 3 + 2, none⟩ (.int .u64 0))) := Lib.hid ⟨_, k, cap, _, rfl, by rw [List.length_set]; exact hkl.symm, K13.out, fun x hx => by
            rcases List.mem_or_eq_of_mem_set hx with h1 | rfl
            · exact N5.out x h1
            · exact Nat.zero_le _, P2.out, (FW.out.setCell (.inr GB.out) _).setCell (.inr GB.out) _⟩
          clear hkl hj hjX v0 v1 v2 P1 h0
          go_wp2
          go_ret
          exact FIN.out
end Go.Proofs.Ytimmoencmmpkdaa
