/- Package ledgers: contracts of Open, Close. -/
import Derived.Test.YtimmoencmmpkdaaLdConcat
namespace Go.Proofs.Ytimmoencmmpkdaa
open Go.RowKit
set_option maxRecDepth 100000

theorem ldc_set (X : List Ld) : ∀ i, i < X.length → ∀ y : Ld, ldc (X.set i y) = (((ldc X).set (i * 3) (.int .u64 (y.id : Nat))).set (i * 3 + 1) (.bool y.cl)).set (i * 3 + 2) (.int .u64 (y.n : Nat)) := by
  induction X with
  | nil => intro i hi; simp at hi
  | cons x X ih =>
    intro i hi y
    have e : ldc (x :: X) = .int .u64 (x.id : Nat) :: .bool x.cl :: .int .u64 (x.n : Nat) :: ldc X := rfl
    rcases i with _ | i
    · rw [e]; rfl
    · have h1 : (i + 1) * 3 = i * 3 + 1 + 1 + 1 := by omega
      rw [List.set_cons_succ, ldc_cons, ih i (by simpa using hi) y, h1, e]
      rfl
theorem LdOwn.zero {w : World} {base cap : Nat} {e : TypeId} {F : List Nat} {a : Option Addr} {X : List Ld} (h : LdOwn w base e F a cap X) (hX : 0 < X.length) : ∃ g, a = some ⟨g, 0, none⟩ := by
  rcases h.own.2 with ⟨_, hl⟩ | ⟨g, c, cur, hv, _⟩
  · omega
  · simp only [Value.slice.injEq] at hv
    exact ⟨g, hv.1⟩
/-- Another one in one's place. -/
theorem LdOwn.put {w : World} {base g cap : Nat} {e : TypeId} {F : List Nat} {X : List Ld} (h : LdOwn w base e F (some ⟨g, 0, none⟩) cap X) {i : Nat} (hi : i < X.length) (y : Ld) (hy : y.fits) :
    LdOwn (((w.setCell ⟨g, i * 3, none⟩ (.int .u64 (y.id : Nat))).setCell ⟨g, i * 3 + 1, none⟩ (.bool y.cl)).setCell ⟨g, i * 3 + 2, none⟩ (.int .u64 (y.n : Nat))) base e F (some ⟨g, 0, none⟩) cap (X.set i y) := by
  refine ⟨?_, fun x hx => ?_, h.away⟩
  · have h1 := (h.own.stored (i * 3) (.int .u64 (y.id : Nat))).1
    have h2 := (h1.stored (i * 3 + 1) (.bool y.cl)).1
    have h3 := (h2.stored (i * 3 + 2) (.int .u64 (y.n : Nat))).1
    rw [ldc_set X i hi y, List.length_set]
    exact h3
  · rcases List.mem_or_eq_of_mem_set hx with h1 | rfl
    · exact h.fits x h1
    · exact hy
/-- What Open answers. -/
def openC (X : List Ld) (id : Nat) : Nat := if (decide (0 < X.length) && !(lastL X).cl) = true then 23 else if id ≤ (lastL X).id then 30 else if 64 ≤ X.length then 14 else 0
/-- What a call leaves that answers ledgers and an error. -/
def LdTo (w : World) (c : Nat) (Y : List Ld) (e : Ending) (w' : World) : Prop :=
  (c ≠ 0 ∧ e = .returned (.tuple #[.slice none 0 0, .int .i64 (c : Nat)]) ∧ Frm [] w w') ∨
  (c = 0 ∧ ∃ a' cap', e = .returned (.tuple #[.slice a' Y.length cap', .int .i64 0]) ∧ LdOwn w' w.heap.size 32 [] a' cap' Y ∧ Frm [] w w')
theorem ldown_base {w : World} {b1 b2 cap : Nat} {e : TypeId} {F : List Nat} {a : Option Addr} {X : List Ld} (h : LdOwn w b1 e F a cap X) (hb : b2 ≤ b1) : LdOwn w b2 e F a cap X := by
  refine ⟨⟨h.own.1, ?_⟩, h.fits, h.away⟩
  rcases h.own.2 with h1 | ⟨g, cp, cur, hv, hb1, r⟩
  · exact .inl h1
  · exact .inr ⟨g, cp, cur, hv, Nat.le_trans hb hb1, r⟩
set_option maxHeartbeats 4000000 in
theorem ldopen_any (a : Option Addr) (n cap : Nat) (X : List Ld) (id : Nat) (w : World) (h : LdL w [] a X) (hc : n ≤ cap) (hc2 : cap ≤ 9223372036854775807) (hnil : a = none → cap = 0) (hn : n = X.length) (hsz : n ≤ 9223372036854775807) (hid : id < 18446744073709551616) (h30 : n ≤ 1000) :
    Calls Try.prog 13 #[.slice a n cap, .int .u64 (id : Nat)] w (LdTo w (openC X id) (X ++ [⟨id, false, 0⟩])) := by
  have HE := Lib.hid (ldends_any a n cap X w h hn (by omega))
  have HL := Lib.hid (fun z (hz : Frm [] w z) => ldlast_any a n cap X z (h.sub hz) hn (by omega))
  have CAT : Hid (∀ z, Frm [] w z → Calls Try.prog 32 #[.slice (some ⟨z.heap.size + 1, 0, none⟩) 2 2] ((z.alloc (.cells #[.int .u64 (id : Nat), .bool false, .int .u64 0] 32)).alloc (.cells #[.slice a n cap, .slice (some ⟨z.heap.size, 0, none⟩) 1 1] 22)) (RetLd ((z.alloc (.cells #[.int .u64 (id : Nat), .bool false, .int .u64 0] 32)).alloc (.cells #[.slice a n cap, .slice (some ⟨z.heap.size, 0, none⟩) 1 1] 22)) (X ++ [⟨id, false, 0⟩]))) := Lib.hid (fun z hz => by
    have hsl : LdSlsIn ((z.alloc (.cells #[.int .u64 (id : Nat), .bool false, .int .u64 0] 32)).alloc (.cells #[.slice a n cap, .slice (some ⟨z.heap.size, 0, none⟩) 1 1] 22)) (z.heap.size + 1) [⟨a, cap, X⟩, ⟨some ⟨z.heap.size, 0, none⟩, 1, [⟨id, false, 0⟩]⟩] := by
      have hw := Whole.made (z.alloc (.cells #[.int .u64 (id : Nat), .bool false, .int .u64 0] 32)) 22 #[.slice a n cap, .slice (some ⟨z.heap.size, 0, none⟩) 1 1]
      rw [World.size_alloc] at hw
      have h1 : LdL (z.alloc (.cells #[.int .u64 (id : Nat), .bool false, .int .u64 0] 32)) [] (some ⟨z.heap.size, 0, none⟩) [⟨id, false, 0⟩] := ⟨ldcvals_one z ⟨id, false, 0⟩ 32, by intro x hx; simp at hx; subst hx; exact ⟨hid, by show 0 < 18446744073709551616; omega⟩, by simp⟩
      intro k hk
      have hk2 : k < 2 := hk
      rcases Nat.lt_or_ge k 1 with h2 | h2
      · obtain rfl : k = 0 := by omega
        refine ⟨by rw [hw.cell]; subst hn; rfl, ⟨h.sub ((hz.alloc _).alloc _), hnil, by subst hn; exact hc, hc2⟩⟩
      · obtain rfl : k = 1 := by omega
        refine ⟨by rw [hw.cell]; rfl, ⟨h1.sub ((Frm.refl _ _).alloc _), (fun h => by cases h), Nat.le_refl 1, by show 1 ≤ 9223372036854775807; omega⟩⟩
    have := ldconcat_any (n := 2) hsl rfl (by decide) (by show (ldall [⟨a, cap, X⟩, ⟨some ⟨z.heap.size, 0, none⟩, 1, [⟨id, false, 0⟩]⟩]).length ≤ _; unfold ldall; simp; omega)
    have e : ldall [⟨a, cap, X⟩, ⟨some ⟨z.heap.size, 0, none⟩, 1, [⟨id, false, 0⟩]⟩] = X ++ [⟨id, false, 0⟩] := by unfold ldall; simp
    rw [e] at this
    exact this)
  unfold openC
  have F0 : Hid (Frm [] w w) := Lib.hid (Frm.refl _ _)
  rw [← hn]
  clear h hc hc2 hnil hn hid
  generalize hY : X ++ [(⟨id, false, 0⟩ : Ld)] = Y at CAT ⊢
  clear hY
  generalize lastL X = x at HE HL ⊢
  obtain ⟨xi, xc, xn⟩ := x
  unfold Ld.val LRet at HL
  unfold LRet at HE
  simp only at HE HL ⊢
  obtain ⟨b, hb⟩ : ∃ b, b = (decide (0 < n) && !xc) := ⟨_, rfl⟩
  rw [← hb] at HE ⊢
  clear hb
  have fl0 := fun a b c w => ldfld0 a b c w
  cases b
  · by_cases h1 : id ≤ xi
    · rw [if_neg (by simp), if_pos h1]
      have d1 : decide (id ≤ xi) = true := decide_eq_true h1
      have d1' : (id : Int) ≤ (xi : Int) := by omega
      clear h1
      go_enter Try.func13, Try.ntmps13
      go_wp2_with fail
      (with_reducible refine HE.out.mono ?_)
      rintro e w2 ⟨rfl, hf2⟩
      have F2 := Lib.hid hf2; clear hf2
      go_wp2_with fail
      (with_reducible refine (HL.out _ F2.out).mono ?_)
      rintro e w3 ⟨rfl, hf3⟩
      have F3 : Hid (Frm [] w w3) := Lib.hid (F2.out.trans hf3 (by simp) (by simp))
      clear hf3
      go_wp2
      go_ret2
      exact .inl ⟨by decide, rfl, F3.out⟩
    · rw [if_neg (by simp), if_neg h1]
      have d1 : decide (id ≤ xi) = false := decide_eq_false h1
      have d1' : ¬ (id : Int) ≤ (xi : Int) := by omega
      clear h1
      by_cases h2 : 64 ≤ n
      · rw [if_pos h2]
        have d2 : decide (64 ≤ n) = true := decide_eq_true h2
        have d2' : (64 : Int) ≤ (n : Int) := by omega
        go_enter Try.func13, Try.ntmps13
        go_wp2_with fail
        (with_reducible refine HE.out.mono ?_)
        rintro e w2 ⟨rfl, hf2⟩
        have F2 := Lib.hid hf2; clear hf2
        go_wp2_with fail
        (with_reducible refine (HL.out _ F2.out).mono ?_)
        rintro e w3 ⟨rfl, hf3⟩
        have F3 : Hid (Frm [] w w3) := Lib.hid (F2.out.trans hf3 (by simp) (by simp))
        clear hf3
        go_wp2
        go_ret2
        exact .inl ⟨by decide, rfl, F3.out⟩
      · rw [if_neg h2]
        have d2 : decide (64 ≤ n) = false := decide_eq_false h2
        have d2' : ¬ (64 : Int) ≤ (n : Int) := by omega
        clear h2
        go_enter Try.func13, Try.ntmps13
        go_wp2_with fail
        (with_reducible refine HE.out.mono ?_)
        rintro e w2 ⟨rfl, hf2⟩
        have F2 := Lib.hid hf2; clear hf2
        go_wp2_with fail
        (with_reducible refine (HL.out _ F2.out).mono ?_)
        rintro e w3 ⟨rfl, hf3⟩
        have F3 : Hid (Frm [] w w3) := Lib.hid (F2.out.trans hf3 (by simp) (by simp))
        clear hf3
        go_wp2_with fail
        (with_reducible refine (CAT.out _ F3.out).mono ?_)
        rintro e w4 ⟨a4, c4, rfl, ho, hf4⟩
        have F4 : Hid (Frm [] w w4) := Lib.hid (((F3.out.alloc _).alloc _).trans hf4 (by simp) (by simp))
        have O4 : Hid (LdOwn w4 w.heap.size 32 [] a4 c4 Y) := Lib.hid (ldown_base ho (by have := F3.out.size; simp; omega))
        clear ho hf4
        go_wp2
        go_ret2
        exact .inr ⟨rfl, a4, c4, rfl, O4.out, F4.out⟩
  · rw [if_pos rfl]
    go_enter Try.func13, Try.ntmps13
    go_wp2_with fail
    (with_reducible refine HE.out.mono ?_)
    rintro e w2 ⟨rfl, hf2⟩
    have F2 := Lib.hid hf2; clear hf2
    go_wp2
    go_ret2
    exact .inl ⟨by decide, rfl, F2.out⟩
/-- What Close answers. -/
def closeC9 (X : List Ld) (n : Nat) : Nat := if (decide (0 < X.length) && !(lastL X).cl) = true then (if 1048576 < n then 14 else 0) else 23
/-- With the last one closed. -/
def closeL9 (X : List Ld) (n : Nat) : List Ld := X.set (X.length - 1) ⟨(lastL X).id, true, n⟩
theorem closeL9_length (X : List Ld) (n : Nat) : (closeL9 X n).length = X.length := by unfold closeL9; rw [List.length_set]
set_option maxHeartbeats 4000000 in
theorem ldclose_any (a : Option Addr) (n cap : Nat) (X : List Ld) (m : Nat) (w : World) (h : LdL w [] a X) (hn : n = X.length) (h30 : n ≤ 1000) :
    Calls Try.prog 14 #[.slice a n cap, .int .u64 (m : Nat)] w (LdTo w (closeC9 X m) (closeL9 X m)) := by
  have HE := Lib.hid (ldends_any a n cap X w h hn (by omega))
  have HL := Lib.hid (fun z (hz : Frm [] w z) => ldlast_any a n cap X z (h.sub hz) hn (by omega))
  obtain ⟨b, hb⟩ : ∃ b, b = (decide (0 < n) && !(lastL X).cl) := ⟨_, rfl⟩
  unfold closeC9
  rw [← hn]
  rw [← hb] at HE ⊢
  have F0 : Hid (Frm [] w w) := Lib.hid (Frm.refl _ _)
  cases b
  · rw [if_neg (by simp)]
    unfold LRet at HE
    clear h hn hb HL
    go_enter Try.func14, Try.ntmps14
    go_wp2_with fail
    (with_reducible refine HE.out.mono ?_)
    rintro e w2 ⟨rfl, hf2⟩
    have F2 := Lib.hid hf2; clear hf2
    go_wp2
    go_ret2
    exact .inl ⟨by decide, rfl, F2.out⟩
  · rw [if_pos rfl]
    have h0 : 0 < n := by
      rcases Nat.eq_zero_or_pos n with h0 | h0
      · subst h0; simp at hb
      · exact h0
    unfold LRet at HE
    by_cases hm : 1048576 < m
    · rw [if_pos hm]
      have d1 : decide (1048576 < m) = true := decide_eq_true hm
      have d1' : (1048576 : Int) < (m : Int) := by omega
      clear h hn hb HL hm h0
      go_enter Try.func14, Try.ntmps14
      go_wp2_with fail
      (with_reducible refine HE.out.mono ?_)
      rintro e w2 ⟨rfl, hf2⟩
      have F2 := Lib.hid hf2; clear hf2
      go_wp2
      go_ret2
      exact .inl ⟨by decide, rfl, F2.out⟩
    · rw [if_neg hm]
      have d1 : decide (1048576 < m) = false := decide_eq_false hm
      have d1' : ¬ (1048576 : Int) < (m : Int) := by omega
      obtain ⟨x, rfl⟩ : ∃ x, a = some x := by
        obtain ⟨b, off, rfl, _⟩ := h.at (i := 0) (by omega)
        exact ⟨_, rfl⟩
      have CL := Lib.hid (fun z (hz : Frm [] w z) => ldclone_any x n cap X z (h.sub hz) hn (by omega))
      obtain ⟨k, hk⟩ : ∃ k, n = k + 1 := ⟨n - 1, by omega⟩
      have XF : Hid ((lastL X).id < 18446744073709551616) := Lib.hid (by unfold lastL; exact (show Ld.fits _ from by
        have : X.length - 1 < X.length := by omega
        have e : X.getD (X.length - 1) default = X[X.length - 1] := by simp [this]
        rw [e]; exact h.fits _ (List.getElem_mem this)).1)
      have CLL : Hid (closeL9 X m = X.set k ⟨(lastL X).id, true, m⟩) := Lib.hid (by unfold closeL9; rw [← hn, hk, Nat.add_sub_cancel])
      have HKX : Hid (k < X.length) := Lib.hid (by omega)
      have HNX := Lib.hid hn
      have s1 : (n : Int) - 1 = (k : Int) := by omega
      have s2 : (k : Int) < (n : Int) := by omega
      have s3 : k < n := by omega
      have M20 : Hid (m < 18446744073709551616) := Lib.hid (by omega)
      clear h hn hb hm h0 hk
      generalize lastL X = y at HL XF CLL
      obtain ⟨yi, yc, yn⟩ := y
      unfold Ld.val LRet at HL
      simp only at HL XF CLL
      have fl0 := fun a b c w => ldfld0 a b c w
      go_enter Try.func14, Try.ntmps14
      go_wp2_with fail
      (with_reducible refine HE.out.mono ?_)
      rintro e w2 ⟨rfl, hf2⟩
      have F2 := Lib.hid hf2; clear hf2
      go_wp2_with fail
      (with_reducible refine (CL.out _ F2.out).mono ?_)
      rintro e w3 ⟨a3, c3, rfl, ho, hf3⟩
      have F3 : Hid (Frm [] w w3) := Lib.hid (F2.out.trans hf3 (by simp) (by simp))
      have O3 : Hid (LdOwn w3 w.heap.size 32 [] a3 c3 X) := Lib.hid (ldown_base ho F2.out.size)
      rw [← HNX.out]
      clear ho hf3
      go_wp2_with fail
      (with_reducible refine (HL.out _ F3.out).mono ?_)
      rintro e w4 ⟨rfl, hf4⟩
      have F4 : Hid (Frm [] w w4) := Lib.hid (F3.out.trans hf4 (by simp) (by simp))
      have O4 : Hid (LdOwn w4 w.heap.size 32 [] a3 c3 X) := Lib.hid (O3.out.keep hf4 (by simp) (by simp))
      clear hf4 O3
      obtain ⟨g, rfl⟩ := O4.out.zero (by have := HKX.out; omega)
      have GB : Hid (w.heap.size ≤ g) := Lib.hid (O4.out.blk_lt g (by simp)).1
      have r0 := O4.out.own.frozenAt (k * 3)
      have r1 := O4.out.own.frozenAt (k * 3 + 1)
      have r2 := O4.out.own.frozenAt (k * 3 + 2)
      obtain ⟨v0, v1, v2⟩ := ldc_at X k HKX.out
      have y0 := (O4.out.own.cellAt (k * 3) (by have := HKX.out; omega)).trans v0
      have y1 := (O4.out.own.cellAt (k * 3 + 1) (by have := HKX.out; omega)).trans v1
      have y2 := (O4.out.own.cellAt (k * 3 + 2) (by have := HKX.out; omega)).trans v2
      have PUT := Lib.hid (O4.out.put HKX.out ⟨yi, true, m⟩ ⟨XF.out, M20.out⟩)
      simp only at PUT
      have FF : Hid (Frm [] w (((w4.setCell ⟨g, k * 3, none⟩ (.int .u64 (yi : Nat))).setCell ⟨g, k * 3 + 1, none⟩ (.bool true)).setCell ⟨g, k * 3 + 2, none⟩ (.int .u64 (m : Nat)))) := Lib.hid (((F4.out.setCell (.inr GB.out) _).setCell (.inr GB.out) _).setCell (.inr GB.out) _)
      clear v0 v1 v2
      go_wp2
      go_ret2
      rw [CLL.out]
      exact .inr ⟨rfl, _, c3, by rw [List.length_set, ← HNX.out]; rfl, PUT.out, FF.out⟩
end Go.Proofs.Ytimmoencmmpkdaa
