/- Contract of the document's All. -/
import Derived.Test.YtimmoencmmpkdaaLdSame
import Derived.Test.YtimmoencmmpkdaaLdMath2
namespace Go.Proofs.Ytimmoencmmpkdaa
open Go.RowKit
set_option maxRecDepth 100000

theorem infoPs : (Try.prog.info? 36).map (fun i => (i.zero, i.size, i.bytes)) = some (some (.agg #[.int .u64 0, .int .u64 0]), 2, 16) := by kernel_rfl
/-- While places are listed: of the first k ledgers all, of the next one j. -/
structure Al13 (w wr : World) (X : List Ld) (o k j m : Nat) (a : Option Addr) (cap : Nat) : Prop where
  own : PsOwn wr w.heap.size 36 [] a cap (allP (X.take k) o ++ (List.range j).map fun i => ⟨(X.getD k default).id, i⟩)
  len : m = tot (X.take k) o + j
  frm : Frm [] w wr
theorem Al13.next {w wr : World} {X : List Ld} {o k m : Nat} {a : Option Addr} {cap : Nat} (h : Al13 w wr X o k ((X.getD k default).size o) m a cap) (hk : k < X.length) : Al13 w wr X o (k + 1) 0 m a cap := by
  refine ⟨?_, by rw [h.len, tot_take o hk, Nat.add_zero], h.frm⟩
  have e : allP (X.take (k + 1)) o ++ (List.range 0).map (fun i => (⟨(X.getD (k + 1) default).id, i⟩ : Ps)) = allP (X.take k) o ++ (List.range ((X.getD k default).size o)).map fun i => ⟨(X.getD k default).id, i⟩ := by
    rw [allP_take o hk]; simp
  rw [e]
  exact h.own
theorem Al13.length {w wr : World} {X : List Ld} {o k j m : Nat} {a : Option Addr} {cap : Nat} (h : Al13 w wr X o k j m a cap) : (allP (X.take k) o ++ (List.range j).map fun i => (⟨(X.getD k default).id, i⟩ : Ps)).length = m := by
  rw [List.length_append, allP_length, List.length_map, List.length_range, h.len]
set_option maxHeartbeats 8000000 in
theorem rlall_any (a : Option Addr) (n cap : Nat) (X : List Ld) (o : Nat) (w : World) (h : LdL w [] a X) (hn : n = X.length) (hsz : n < 4611686018427387904) (ht : tot X o ≤ 100000) :
    Calls Try.prog 36 #[.slice a n cap, .int .u64 (o : Nat)] w fun e w' => ∃ a' c', e = .returned (.slice a' (tot X o : Nat) c') ∧ PsOwn w' w.heap.size 36 [] a' c' (allP X o) ∧ Frm [] w w' := by
  have SZ := Lib.hid (fun (x : Ld) z => rlsize_any x o z)
  have TT : Hid (∀ k, k < X.length → tot (X.take k) o + (X.getD k default).size o ≤ 100000) := Lib.hid (fun k hk => by
    have h1 := tot_take o hk
    have h2 := tot_take_le X o (k + 1)
    omega)
  obtain ⟨i0, hi, hz0, hz1, hz2⟩ := info_parts infoPs
  have HI := Lib.hid hi; clear hi
  have HZ0 := Lib.hid hz0; clear hz0
  have HZ1 := Lib.hid hz1; clear hz1
  have HZ2 := Lib.hid hz2; clear hz2
  have FITX := Lib.hid (fun i => ld_fits_at h.fits i)
  have H := Lib.hid h; clear h
  have HN := Lib.hid hn; clear hn ht
  obtain ⟨Q, hQ⟩ : ∃ Q : Ending → World → Prop, Q = fun e w' => ∃ a' c', e = .returned (.slice a' (tot X o : Nat) c') ∧ PsOwn w' w.heap.size 36 [] a' c' (allP X o) ∧ Frm [] w w' := ⟨_, rfl⟩
  rw [← hQ]
  have HQ := Lib.hid hQ; clear hQ
  go_enter Try.func36, Try.ntmps36
  go_wp2
  go_loopw [5, 6] (fun s5 s6 wr => ∃ (k m : Nat) (a : Option Addr) (cap : Nat), k ≤ n ∧ s6 = .int .i64 (k : Nat) ∧ s5 = .slice a m cap ∧ Hid (Al13 w wr X o k 0 m a cap)) (fun _ s6 _ => n - (intOf s6).toNat)
  case atStart => exact ⟨0, 0, none, 0, Nat.zero_le _, rfl, rfl, Lib.hid ⟨by simpa [allP] using PsOwn.nil _ _ _ _, by simp [tot], Frm.refl _ _⟩⟩
  case round =>
    obtain ⟨k, m, ar, capr, hk, rfl, rfl, HA⟩ := hrel
    by_cases hlt : k < n
    · have hlt' : (k : Int) < (n : Int) := by omega
      have hkX : k < X.length := by have := HN.out; omega
      obtain ⟨b, off, rfl, e0, e1, e2, _⟩ := H.out.at (i := k) hkX
      have XA : Hid (∀ z, Frm [] w z → z.cell? ⟨b, off + k * 3, none⟩ = some (.int .u64 ((X.getD k default).id : Nat))) := Lib.hid (fun z hz => (hz.cell (p := ⟨b, off + k * 3, none⟩) (block_lt_of_cell e0) (by simp)).trans e0)
      have d0 := XA.out _ HA.out.frm
      have d1 := (HA.out.frm.cell (p := ⟨b, off + k * 3 + 1, none⟩) (block_lt_of_cell e1) (by simp)).trans e1
      have d2 := (HA.out.frm.cell (p := ⟨b, off + k * 3 + 2, none⟩) (block_lt_of_cell e2) (by simp)).trans e2
      clear e0 e1 e2
      have NX := Lib.hid (fun wr m a cap (h : Al13 w wr X o k ((X.getD k default).size o) m a cap) => h.next hkX)
      have tk := TT.out k hkX
      obtain ⟨x, hx⟩ : ∃ x, x = X.getD k default := ⟨_, rfl⟩
      have EX := Lib.hid hx
      rw [← hx] at d0 d1 d2 NX tk XA
      have SX := Lib.hid (SZ.out x)
      obtain ⟨sz, hsz2⟩ : ∃ sz, sz = x.size o := ⟨_, rfl⟩
      rw [← hsz2] at SX NX tk
      have XI : Hid (x.id < 18446744073709551616) := Lib.hid (by rw [hx]; exact (FITX.out k).1)
      clear hx hkX hsz2
      obtain ⟨xi, xc, xn⟩ := x
      unfold Ld.val LRet at SX
      simp only at d0 d1 d2 SX XI XA
      have TK := Lib.hid tk
      clear tk
      go_wp2_with fail
      (with_reducible refine (SX.out _).mono ?_)
      rintro e w2 ⟨rfl, hf2⟩
      have A2 : Hid (Al13 w w2 X o k 0 m ar capr) := Lib.hid ⟨HA.out.own.keep hf2 (by simp) (by simp), HA.out.len, HA.out.frm.trans hf2 (by simp) (by simp)⟩
      have sz16 : sz ≤ 100000 := by have := TK.out; omega
      clear hf2 d0 d1 d2
      go_wp2
      go_loopw [5, 8] (fun s5 s8 wr => ∃ (j m : Nat) (a : Option Addr) (cap : Nat), j ≤ sz ∧ s8 = .int .u64 (j : Nat) ∧ s5 = .slice a m cap ∧ Hid (Al13 w wr X o k j m a cap)) (fun _ s8 _ => sz - (intOf s8).toNat)
      case atStart => exact ⟨0, m, ar, capr, Nat.zero_le _, rfl, rfl, A2⟩
      case round =>
        obtain ⟨j, mj, aj, cj, hj, rfl, rfl, HJ⟩ := hrel
        have c0 := XA.out _ HJ.out.frm
        by_cases hjl : j < sz
        · have hjl' : (j : Int) < (sz : Int) := by omega
          have HLEN := Lib.hid HJ.out.length
          have hmj : mj + 1 ≤ 1000000000 := by have := HJ.out.len; have := TK.out; omega
          have OWN : Hid ((wr.alloc (.cells #[.int .u64 (xi : Nat), .int .u64 (j : Nat)] 36)).ownsRow w.heap.size 36 2 (.slice aj mj cj) mj (psc (allP (X.take k) o ++ (List.range j).map fun i => ⟨(X.getD k default).id, i⟩))) := Lib.hid (by
            have := (HJ.out.own.keep (S := []) (F' := []) ((Frm.refl [] wr).alloc (.cells #[.int .u64 (xi : Nat), .int .u64 (j : Nat)] 36)) (by simp) (by simp)).own
            rwa [HLEN.out] at this)
          have ONE : Hid (ValsAt (wr.alloc (.cells #[.int .u64 (xi : Nat), .int .u64 (j : Nat)] 36)) (some ⟨wr.heap.size, 0, none⟩) (psc [⟨xi, j⟩])) := Lib.hid (pscvals_one wr ⟨xi, j⟩ 36)
          have hbz : w.heap.size ≤ (wr.alloc (.cells #[.int .u64 (xi : Nat), .int .u64 (j : Nat)] 36)).heap.size := by have := HJ.out.frm.size; simp; omega
          obtain ⟨j1, hj1⟩ : ∃ j1, j1 = j + 1 := ⟨_, rfl⟩
          have hv1 : IntKind.u64.wrap ((j : Int) + 1) = (j1 : Int) := by simp [IntKind.wrap, IntKind.bits, IntKind.signed]; omega
          have hv2 : (j : Int) + 1 = (j1 : Int) := by omega
          have hv3 : IntKind.u64.wrap (j1 : Int) = (j1 : Int) := by simp [IntKind.wrap, IntKind.bits, IntKind.signed]; omega
          have HJ1 := Lib.hid hj1; clear hj1
          go_wp2_with (at_builtin; refine wpList_appS (by rfl) (.tmp 26) (.tmp 34) 54 rfl w.heap.size 36 i0 (.agg #[.int .u64 0, .int .u64 0]) 2 16 Try.underlying54 HI.out HZ0.out rfl (by decide) HZ1.out HZ2.out (by decide) (.slice aj mj cj) mj _ rfl OWN.out _ 1 1 _ rfl ONE.out rfl (psc_one _) (fun h => by cases h) hmj hbz ?_)
          intro a3 c3 w3 happ
          have g3 := (HJ.out.own.keep (S := []) (F' := []) ((Frm.refl [] wr).alloc (.cells #[.int .u64 (xi : Nat), .int .u64 (j : Nat)] 36)) (by simp) (by simp)).app (Y := [⟨xi, j⟩]) HLEN.out.symm (by intro y hy; simp at hy; subst hy; exact ⟨XI.out, by show j < _; omega⟩) rfl (by simp) happ
          have A3 : Hid (Al13 w w3 X o k j1 (mj + 1) a3 c3) := Lib.hid ⟨by
            have h1 := g3.1
            rw [List.append_assoc] at h1
            rw [HJ1.out, List.range_succ, List.map_append, ← EX.out] at *
            exact h1, by rw [HJ.out.len, HJ1.out]; omega, (HJ.out.frm.alloc (.cells #[.int .u64 (xi : Nat), .int .u64 (j : Nat)] 36)).trans g3.2.1 (by simp) (fun x hx => .inr (HJ.out.own.blk_lt x hx).1)⟩
          clear happ g3 OWN ONE hbz
          go_wp2
          go_roundw
          case rel => exact ⟨j1, mj + 1, a3, c3, by have := HJ1.out; omega, by rfl, by rfl, A3⟩
          case measure => have := HJ1.out; simp [intOf]; omega
        · obtain rfl : j = sz := by omega
          have A4 := Lib.hid (NX.out _ _ _ _ HJ.out)
          go_wp2
          go_roundw
          case rel => exact ⟨k + 1, mj, aj, cj, by omega, by go_num, rfl, A4⟩
          case measure => simp [intOf]; omega
    · obtain rfl : k = n := by omega
      have E : Hid (Q (.returned (.slice ar (m : Nat) capr)) wr) := Lib.hid (by
        rw [HQ.out]
        have h1 := HA.out.own
        have h2 := HA.out.len
        rw [HN.out, List.take_length] at h1 h2
        simp only [List.range_zero, List.map_nil, List.append_nil, Nat.add_zero] at h1 h2
        exact ⟨ar, capr, by rw [h2], h1, HA.out.frm⟩)
      go_wp2
      exact E.out
end Go.Proofs.Ytimmoencmmpkdaa
