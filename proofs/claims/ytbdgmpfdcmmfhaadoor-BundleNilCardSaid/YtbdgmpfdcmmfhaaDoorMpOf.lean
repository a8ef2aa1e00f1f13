/- Contracts of the document's Of of Maps, of SameInts. -/
import Derived.Test.YtbdgmpfdcmmfhaaDoorMpBase
import Derived.BigQuiet
import Derived.Deep.QuietTactic
namespace Go.Proofs.YtbdgmpfdcmmfhaaDoor
open Go.RowKit
set_option maxRecDepth 100000

/-- The bundle of a hash: where it begins, below where it ends. -/
structure OfP (f : Nat → Bool) (h lo hi : Nat) : Prop where
  le : lo ≤ h
  at' : f lo = true
  no : ∀ j, lo < j → j < hi → f j = false
  lt : h < hi
  top : hi ≤ 65536
  ends : hi = 65536 ∨ f hi = true
theorem OfP.uniq {f : Nat → Bool} {h lo hi lo' hi' : Nat} (a : OfP f h lo hi) (b : OfP f h lo' hi') : lo = lo' ∧ hi = hi' := by
  have x := a.le; have y := b.le; have z := a.lt; have t := b.lt; have u := a.top; have v := b.top
  constructor
  · rcases Nat.lt_trichotomy lo lo' with e | e | e
    · have := a.no lo' e (by omega); rw [b.at'] at this; cases this
    · exact e
    · have := b.no lo e (by omega); rw [a.at'] at this; cases this
  · rcases Nat.lt_trichotomy hi hi' with e | e | e
    · rcases a.ends with h1 | h1
      · omega
      · have := b.no hi (by omega) e; rw [h1] at this; cases this
    · exact e
    · rcases b.ends with h1 | h1
      · omega
      · have := a.no hi' (by omega) e; rw [h1] at this; cases this
def MOfE (w : World) (f : Nat → Bool) (h : Int) (e : Ending) (w' : World) : Prop :=
  w' = w ∧ (((h < 0 ∨ 65535 < h) ∧ e = .returned (.tuple #[.int .i64 0, .int .i64 0, .bool false])) ∨
    (∃ n lo hi : Nat, h = (n : Nat) ∧ n < 65536 ∧ OfP f n lo hi ∧ e = .returned (.tuple #[.int .i64 (lo : Nat), .int .i64 (hi : Nat), .bool true])))
set_option maxHeartbeats 4000000 in
theorem mof_any {w : World} {p : Nat} {f : Nat → Bool} (h : Int) (hm : Mp w p f) (h0 : f 0 = true) :
    Calls Tryd.prog 19 #[.pointer (some ⟨p, 0, none⟩), .int .i64 h] w (MOfE w f h) := by
  have HH := Lib.hid hm; clear hm
  have H0 := Lib.hid h0; clear h0
  obtain ⟨Q, hQ⟩ : ∃ Q, Q = MOfE w f h := ⟨_, rfl⟩
  rw [← hQ]
  have HQ := Lib.hid hQ; clear hQ
  have V0 : Hid (∀ (v4 v5 v6 : Value) (tm : Array Value), tm.getD 4 undef = v4 → tm.getD 5 undef = v5 → tm.getD 6 undef = v6 → (results Tryd.f19 tm).run Tryd.prog w = .ok (.tuple #[v4, v5, v6]) w) := Lib.hid (fun v4 v5 v6 tm h4 h5 h6 => by
    have h4' : tm[4]?.getD undef = v4 := by simpa using h4
    have h5' : tm[5]?.getD undef = v5 := by simpa using h5
    have h6' : tm[6]?.getD undef = v6 := by simpa using h6
    simp [results, Tryd.results19, go_sem, h4', h5', h6'])
  go_enter Tryd.func19, Tryd.ntmps19
  by_cases h1 : h < 0
  · have EH : Hid (Q (.returned (.tuple #[.int .i64 0, .int .i64 0, .bool false])) w) := Lib.hid (by rw [HQ.out]; exact ⟨rfl, .inl ⟨.inl h1, rfl⟩⟩)
    go_wp2
    refine bodyPost_ret (V0.out _ _ _ _ rfl rfl rfl) rfl ?_
    exact EH.out
  · by_cases h2 : 65535 < h
    · have EH : Hid (Q (.returned (.tuple #[.int .i64 0, .int .i64 0, .bool false])) w) := Lib.hid (by rw [HQ.out]; exact ⟨rfl, .inl ⟨.inr h2, rfl⟩⟩)
      go_wp2
      refine bodyPost_ret (V0.out _ _ _ _ rfl rfl rfl) rfl ?_
      exact EH.out
    · obtain ⟨n, rfl⟩ : ∃ n : Nat, h = (n : Int) := ⟨h.toNat, by omega⟩
      have hn : n < 65536 := by omega
      go_wp2
      go_loop [7] (fun u7 => ∃ k : Nat, k ≤ n ∧ u7 = .int .i64 (k : Nat) ∧ Hid (∀ j, k < j → j ≤ n → f j = false)) (fun u7 => (intOf u7).toNat)
      case atStart => exact ⟨n, Nat.le_refl _, rfl, Lib.hid (fun j h3 h4 => by omega)⟩
      case round =>
        obtain ⟨k, hk, rfl, HJ⟩ := hrel
        have hk6 : k < 65536 := by omega
        have hk6' : (k : Int) < 65536 := by omega
        have c0 := HH.out.cell k hk6
        cases e : f k
        · rw [e] at c0
          have hk0 : k ≠ 0 := by rintro rfl; rw [H0.out] at e; cases e
          have NX : Hid (∀ j, k - 1 < j → j ≤ n → f j = false) := Lib.hid (fun j h3 h4 => by
            rcases Nat.eq_or_lt_of_le (show k ≤ j by omega) with rfl | h5
            · exact e
            · exact HJ.out j h5 h4)
          obtain ⟨k1, hk1⟩ : ∃ k1, k1 = k - 1 := ⟨_, rfl⟩
          rw [← hk1] at NX
          have s1 : (k : Int) - 1 = (k1 : Int) := by omega
          have s2 : IntKind.i64.wrap (k1 : Int) = (k1 : Int) := by simp [IntKind.wrap, IntKind.bits, IntKind.signed]; omega
          have HK1 := Lib.hid hk1
          have HK0 := Lib.hid hk0
          clear e hk1 hk0
          go_wp2
          go_round
          case rel => exact ⟨k1, by have := HK1.out; omega, by rfl, NX⟩
          case measure => have h3 := HK1.out; have h4 := HK0.out; simp [intOf]; omega
        · rw [e] at c0
          have AT := Lib.hid e
          clear e
          go_wp2
          clear c0
          go_loop [8] (fun u8 => ∃ t : Nat, n < t ∧ t ≤ 65536 ∧ u8 = .int .i64 (t : Nat) ∧ Hid (∀ j, n < j → j < t → f j = false)) (fun u8 => 65536 - (intOf u8).toNat)
          case atStart => exact ⟨n + 1, by omega, by omega, by go_num, Lib.hid (fun j h3 h4 => by omega)⟩
          case round =>
            obtain ⟨t, ht, ht6, rfl, HT⟩ := hrel
            have DONE : Hid ((t = 65536 ∨ f t = true) → Q (.returned (.tuple #[.int .i64 (k : Nat), .int .i64 (t : Nat), .bool true])) w) := Lib.hid (fun he => by
              rw [HQ.out]
              refine ⟨rfl, .inr ⟨n, k, t, rfl, hn, ⟨hk, AT.out, fun j h3 h4 => ?_, ht, ht6, he⟩, rfl⟩⟩
              rcases Nat.lt_or_ge n j with h5 | h5
              · exact HT.out j h5 h4
              · exact HJ.out j h3 h5)
            by_cases hlt : t < 65536
            · have hlt' : (t : Int) < 65536 := by omega
              have c1 := HH.out.cell t hlt
              cases e : f t
              · rw [e] at c1
                have NX : Hid (∀ j, n < j → j < t + 1 → f j = false) := Lib.hid (fun j h3 h4 => by
                  rcases Nat.eq_or_lt_of_le (show j ≤ t by omega) with rfl | h5
                  · exact e
                  · exact HT.out j h3 h5)
                clear e
                go_wp2
                go_round
                case rel => exact ⟨t + 1, by omega, by omega, by go_num, NX⟩
                case measure => simp [intOf]; omega
              · rw [e] at c1
                have EH := Lib.hid (DONE.out (.inr e))
                clear e
                go_wp2
                refine bodyPost_ret (V0.out _ _ _ _ rfl rfl rfl) rfl ?_
                exact EH.out
            · obtain rfl : t = 65536 := by omega
              have EH := Lib.hid (DONE.out (.inl rfl))
              go_wp2
              refine bodyPost_ret (V0.out _ _ _ _ rfl rfl rfl) rfl ?_
              exact EH.out

/-- Answers whether P, and turns nothing of old. -/
def IBool (P : Prop) (w : World) (e : Ending) (w' : World) : Prop := ∃ b : Bool, e = .returned (.bool b) ∧ (b = true ↔ P) ∧ Frm [] w w'
theorem IBool.t {P : Prop} {w w' : World} (hp : P) (hf : Frm [] w w') : IBool P w (.returned (.bool true)) w' := ⟨true, rfl, by simp [hp], hf⟩
theorem IBool.f {P : Prop} {w w' : World} (hp : ¬ P) (hf : Frm [] w w') : IBool P w (.returned (.bool false)) w' := ⟨false, rfl, by simp [hp], hf⟩
theorem iv_ext {X Y : List Nat} (hl : X.length = Y.length) (h : ∀ i, i < X.length → X.getD i 0 = Y.getD i 0) : X = Y := by
  apply List.ext_getElem hl
  intro i h1 h2
  have := h i h1
  simpa [h1, h2] using this
set_option maxHeartbeats 2000000 in
theorem msame_any (a b : Option Addr) (n cap m cap' : Nat) (X Y : List Nat) (w : World) (h : IvL w [] a X) (h' : IvL w [] b Y) (hn : n = X.length) (hm : m = Y.length) (hsz : n < 4611686018427387904) (hsz' : m < 4611686018427387904) :
    Calls Tryd.prog 15 #[.slice a n cap, .slice b m cap'] w (IBool (X = Y) w) := by
  have HN := Lib.hid hn; clear hn
  have HM := Lib.hid hm; clear hm
  have H := Lib.hid h; clear h
  have H' := Lib.hid h'; clear h'
  by_cases hne : n = m
  · subst hne
    have hb : ((n : Int) != (n : Int)) = false := by simp
    go_enter Tryd.func15, Tryd.ntmps15
    go_wp2
    clear hb
    go_loopw [5] (fun s5 wr => ∃ k : Nat, k ≤ n ∧ s5 = .int .i64 k ∧ Hid (∀ i, i < k → X.getD i 0 = Y.getD i 0) ∧ Hid (Frm [] w wr)) (fun s5 _ => n - (intOf s5).toNat)
    case atStart => exact ⟨0, Nat.zero_le _, rfl, Lib.hid (fun i hi => by omega), Lib.hid (Frm.refl _ _)⟩
    case round =>
      obtain ⟨k, hk, rfl, HI, HF⟩ := hrel
      by_cases hlt : k < n
      · have hlt' : (k : Int) < (n : Int) := by omega
        obtain ⟨b1, o1, rfl, d0⟩ := (H.out.sub HF.out).at (i := k) (by have := HN.out; omega)
        obtain ⟨b2, o2, rfl, f0⟩ := (H'.out.sub HF.out).at (i := k) (by have := HM.out; omega)
        obtain ⟨x, hx⟩ : ∃ x, x = X.getD k 0 := ⟨_, rfl⟩
        obtain ⟨y, hy⟩ : ∃ y, y = Y.getD k 0 := ⟨_, rfl⟩
        rw [← hx] at d0
        rw [← hy] at f0
        have NO : Hid (x ≠ y → X ≠ Y) := Lib.hid (fun hxy he => hxy (by rw [hx, hy, he]))
        have NX : Hid (x = y → ∀ i, i < k + 1 → X.getD i 0 = Y.getD i 0) := Lib.hid (fun hxy i hi => by
          rcases Nat.lt_or_eq_of_le (Nat.le_of_lt_succ hi) with h1 | rfl
          · exact HI.out i h1
          · rw [← hx, ← hy]; exact hxy)
        clear hx hy
        by_cases hxy : x = y
        · have NX2 := Lib.hid (NX.out hxy)
          subst hxy
          have ee : ((x : Int) != (x : Int)) = false := by simp
          go_wp2
          go_quiet (fail)
          go_wp2
          go_roundw
          case rel => exact ⟨k + 1, by omega, by go_num, NX2, Lib.hid (HF.out.drewN _)⟩
          case measure => simp [intOf]; omega
        · have NO2 := Lib.hid (NO.out hxy)
          have ee : ((x : Int) != (y : Int)) = true := by simp; omega
          clear hxy
          go_wp2
          go_quiet (fail)
          go_wp2
          go_ret
          exact .f NO2.out (HF.out.drewN _)
      · obtain rfl : k = n := by omega
        have E : Hid (X = Y) := Lib.hid (iv_ext (by rw [← HN.out, ← HM.out]) (by rw [← HN.out]; exact HI.out))
        go_wp2
        go_ret
        exact .t E.out HF.out
  · have hb : ((n : Int) != (m : Int)) = true := by simp; omega
    have NO : Hid (X ≠ Y) := Lib.hid (fun he => hne (by rw [HN.out, HM.out, he]))
    have F0 : Hid (Frm [] w w) := Lib.hid (Frm.refl _ _)
    go_enter Tryd.func15, Tryd.ntmps15
    go_wp2
    go_ret
    exact .f NO.out F0.out
end Go.Proofs.YtbdgmpfdcmmfhaaDoor
