/- Contracts of Gap, of the document's Gap, and of Same. -/
import Derived.Test.YtolmpmihchjmlaaRgAsk1
import Derived.Laws.StructEq
namespace Go.Proofs.Ytolmpmihchjmlaa
open Go.RowKit

/-- g is the least number from x on that isn't in. -/
def GapOf (l : List Rg) (x g : Nat) : Prop := x ≤ g ∧ ¬ Mem l g ∧ ∀ m, x ≤ m → m < g → Mem l m
theorem GapOf.uniq {l : List Rg} {x g g' : Nat} (h : GapOf l x g) (h' : GapOf l x g') : g = g' := by
  obtain ⟨a1, a2, a3⟩ := h
  obtain ⟨b1, b2, b3⟩ := h'
  rcases Nat.lt_trichotomy g g' with c | c | c
  · exact absurd (b3 g a1 c) a2
  · exact c
  · exact absurd (a3 g' b1 c) b2
theorem gapOf_self {l : List Rg} {x : Nat} (h : ¬ Mem l x) : GapOf l x x := ⟨Nat.le_refl _, h, fun m h1 h2 => by omega⟩
theorem gapOf_hi {l : List Rg} (h : Rt l) {i x : Nat} (hi : i < l.length) (h1 : (l.getD i (0, 0)).1 ≤ x) (h2 : x < (l.getD i (0, 0)).2) : GapOf l x (l.getD i (0, 0)).2 := by
  refine ⟨by omega, ?_, fun m hm1 hm2 => (mem_iff_getD l m).2 ⟨i, hi, by omega, hm2⟩⟩
  rw [mem_iff_getD]
  rintro ⟨j, hj, h3, h4⟩
  rcases Nat.lt_trichotomy i j with c | rfl | c
  · have := rt_gap h c hj; omega
  · omega
  · have := rt_gap h c hi
    have := rt_lt h hi
    omega
theorem gap_ex {l : List Rg} (h : Rt l) (hb : ∀ p ∈ l, p.1 < 18446744073709551616 ∧ p.2 < 18446744073709551616) (x : Nat) (hx : x < 18446744073709551616) : ∃ g, GapOf l x g ∧ g < 18446744073709551616 := by
  by_cases hm : Mem l x
  · obtain ⟨i, hi, h1, h2⟩ := (mem_iff_getD l x).1 hm
    exact ⟨_, gapOf_hi h hi h1 h2, (getD_bd hb i).2⟩
  · exact ⟨x, gapOf_self hm, hx⟩

theorem gap_any {w : World} {a : Option Addr} {l : List Rg} (h : Rr w a l) (hr : Rt l) {n cap x g : Nat} (hn : n = l.length) (hsz : n < 4611686018427387904) (hg : GapOf l x g) :
    Calls Try.prog 29 #[.slice a n cap, .int .u64 x] w fun e w' => e = .returned (.int .u64 g) ∧ Frm [] w w' := by
  have B := Lib.hid (behind_any (cap := cap) (x := x) h hr hn hsz)
  have HN := Lib.hid hn; clear hn
  have H := Lib.hid h; clear h
  have HR := Lib.hid hr; clear hr
  have HG := Lib.hid hg; clear hg
  go_enter Try.func29, Try.ntmps29
  go_wp2_with fail
  refine B.out.mono ?_
  rintro e w' ⟨r, rfl, h0, h1, h2, hf⟩
  have M := Lib.hid (mem_behind HR.out h1 h2)
  have HF := Lib.hid hf
  have H2 := Lib.hid h2
  clear h1 h2 hf
  by_cases hlt : r < l.length
  · obtain ⟨b, off, rfl, hc⟩ := (H.out.keep0 HF.out).2 (by omega)
    obtain ⟨d0, d1⟩ := hc r hlt
    clear hc
    obtain ⟨y, hy⟩ : ∃ y, y = (l.getD r (0, 0)).1 := ⟨_, rfl⟩
    obtain ⟨z, hz⟩ : ∃ y, y = (l.getD r (0, 0)).2 := ⟨_, rfl⟩
    rw [← hy] at d0
    rw [← hz] at d1
    have HY := Lib.hid hy; clear hy
    have HZ := Lib.hid hz; clear hz
    have hne : ((r : Int) == (n : Int)) = false := by have := HN.out; simp; omega
    have hlt' : (r : Int) < (n : Int) := by have := HN.out; omega
    by_cases hxy : (x : Int) < (y : Int)
    · go_wp2
      go_ret
      exact ⟨ret_same (by have := HG.out.uniq (gapOf_self (by rw [M.out, ← HY.out]; omega)); omega), HF.out⟩
    · go_wp2
      go_ret
      exact ⟨ret_same (by have := HG.out.uniq (gapOf_hi HR.out hlt (by rw [← HY.out]; omega) (H2.out r (Nat.le_refl _) hlt)); have := HZ.out; omega), HF.out⟩
  · have hne : ((r : Int) == (n : Int)) = true := by have := HN.out; simp; omega
    go_wp2
    go_ret
    exact ⟨ret_same (by have := HG.out.uniq (gapOf_self (by rw [M.out]; omega)); omega), HF.out⟩

def GOut (x g k : Nat) (v : Nat) : Prop := v = g ∨ (v = x ∧ k = 0)
def GIn (l : List Rg) (x g i : Nat) (v : Nat) : Prop := v = g ∨ (v = x ∧ ∀ t, t < i → ¬ ((l.getD t (0, 0)).1 ≤ x ∧ x < (l.getD t (0, 0)).2))

set_option maxHeartbeats 2000000 in
theorem rgap_any {w : World} {a : Option Addr} {l : List Rg} (h : Rr w a l) (hr : Rt l) {n cap x g : Nat} (hn : n = l.length) (hsz : n < 4611686018427387904) (hx : x < 18446744073709551616) (hg : GapOf l x g) (hg64 : g < 18446744073709551616) :
    Calls Try.prog 30 #[.slice a n cap, .int .u64 x] w fun e w' => e = .returned (.int .u64 g) ∧ Frm [] w w' := by
  have HN := Lib.hid hn; clear hn
  have H := Lib.hid h; clear h
  have HR := Lib.hid hr; clear hr
  have HG := Lib.hid hg; clear hg
  have F0 : Hid (Frm [] w w) := Frm.refl _ _
  go_enter Try.func30, Try.ntmps30
  go_wp2
  go_loop [1, 5] (fun v i => ∃ k m : Nat, k ≤ n + 1 ∧ i = .int .i64 k ∧ v = .int .u64 m ∧ Hid (GOut x g k m) ∧ m < 18446744073709551616) (fun _ i => n + 1 - (intOf i).toNat)
  case atStart => exact ⟨0, x, Nat.zero_le _, rfl, rfl, .inr ⟨rfl, rfl⟩, hx⟩
  case round =>
    obtain ⟨k, m, hk, rfl, rfl, HO, hm64⟩ := hrel
    by_cases hlt : k ≤ n
    · have hlt' : (k : Int) ≤ (n : Int) := by omega
      go_wp2
      go_loop [1, 6] (fun v i => ∃ j m : Nat, j ≤ n ∧ i = .int .i64 j ∧ v = .int .u64 m ∧ Hid (GIn l x g j m) ∧ m < 18446744073709551616) (fun _ i => n - (intOf i).toNat)
      case atStart => exact ⟨0, m, Nat.zero_le _, rfl, rfl, (by rcases HO.out with h | h; exact .inl h; exact .inr ⟨h.1, fun t ht => absurd ht (Nat.not_lt_zero _)⟩), hm64⟩
      case round =>
        obtain ⟨j, m', hj, rfl, rfl, HI, hm64'⟩ := hrel
        clear HO hm64 hk hlt'
        by_cases hjn : j < n
        · obtain ⟨b, off, rfl, hc⟩ := H.out.2 (by have := HN.out; omega)
          obtain ⟨d0, d1⟩ := hc j (by have := HN.out; omega)
          have bd := getD_bd H.out.1 j
          clear hc
          obtain ⟨x0, hx0⟩ : ∃ y, y = (l.getD j (0, 0)).1 := ⟨_, rfl⟩
          obtain ⟨y0, hy0⟩ : ∃ y, y = (l.getD j (0, 0)).2 := ⟨_, rfl⟩
          rw [← hx0] at d0 bd
          rw [← hy0] at d1 bd
          have HX := Lib.hid hx0; clear hx0
          have HY := Lib.hid hy0; clear hy0
          have hlt' : (j : Int) < (n : Int) := by omega
          by_cases hin : x0 ≤ m' ∧ m' < y0
          · have e1 : (x0 : Int) ≤ (m' : Int) := by omega
            have e2 : (m' : Int) < (y0 : Int) := by omega
            have GI : Hid (GIn l x g (j + 1) y0) := by
              rcases HI.out with h1 | ⟨h1, h2⟩
              · have hno := HG.out.2.1
                rw [mem_iff_getD] at hno
                exact absurd ⟨j, by have := HN.out; omega, by rw [← HX.out]; omega, by rw [← HY.out]; omega⟩ hno
              · have := HG.out.uniq (gapOf_hi HR.out (i := j) (by have := HN.out; omega) (by rw [← HX.out]; omega) (by rw [← HY.out]; omega))
                exact .inl (by rw [this]; exact HY.out)
            have hy64 := bd.2
            clear bd hin
            go_wp2
            go_round
            case rel => exact ⟨j + 1, y0, by omega, by go_num, rfl, GI, hy64⟩
            case measure => simp [intOf]; omega
          · have GI : Hid (GIn l x g (j + 1) m') := by
              rcases HI.out with h1 | ⟨h1, h2⟩
              · exact .inl h1
              · refine .inr ⟨h1, fun t ht => ?_⟩
                rcases Nat.lt_or_eq_of_le (Nat.le_of_lt_succ ht) with h3 | rfl
                · exact h2 t h3
                · rw [← HX.out, ← HY.out, ← h1]; exact hin
            clear bd
            by_cases e1 : (x0 : Int) ≤ (m' : Int)
            · have e2 : ¬ (m' : Int) < (y0 : Int) := by omega
              clear hin
              go_wp2
              go_round
              case rel => exact ⟨j + 1, m', by omega, by go_num, rfl, GI, hm64'⟩
              case measure => simp [intOf]; omega
            · clear hin
              go_wp2
              go_round
              case rel => exact ⟨j + 1, m', by omega, by go_num, rfl, GI, hm64'⟩
              case measure => simp [intOf]; omega
        · obtain rfl : j = n := by omega
          have GO : Hid (GOut x g (k + 1) m') := by
            rcases HI.out with h1 | ⟨h1, h2⟩
            · exact .inl h1
            · refine .inl ?_
              rw [h1]
              refine (HG.out.uniq (gapOf_self ?_)).symm
              rw [mem_iff_getD]
              rintro ⟨t, ht, h3⟩
              exact h2 t (by have := HN.out; omega) h3
          go_wp2
          go_round
          case rel => exact ⟨k + 1, m', by omega, by go_num, rfl, GO, hm64'⟩
          case measure => simp [intOf]; omega
    · obtain rfl : k = n + 1 := by omega
      have e : m = g := by rcases HO.out with h | h; exact h; omega
      subst e
      have hlt' : ¬ ((n + 1 : Nat) : Int) ≤ (n : Int) := by omega
      go_wp2
      go_ret
      exact ⟨rfl, F0.out⟩

theorem stood_rg : Try.prog.stoodInHeld 51 = false := by kernel_rfl
theorem fields_rg : Try.prog.underlying 51 = some (.struct (Try.prog.fieldsOf 51)) := by kernel_rfl
theorem part_rg (p0 p1 : Nat) (w : World) : (part 33 #[.int .u64 (p0 : Nat), .int .u64 (p1 : Nat)] 0).run Try.prog w = .ok (.int .u64 (p0 : Nat)) w ∧ (part 33 #[.int .u64 (p0 : Nat), .int .u64 (p1 : Nat)] 1).run Try.prog w = .ok (.int .u64 (p1 : Nat)) w := ⟨by kernel_rfl, by kernel_rfl⟩
theorem fl_rg : ((Try.prog.fieldsOf 51).toList.map fun f => (f.name, f.type, f.offset)) = [("Lo", 33, 0), ("Hi", 33, 1)] := by kernel_rfl
theorem equal_rg (p0 p1 q0 q1 : Nat) (w : World) : (Op.equalIn 10000 51 (.agg #[.int .u64 (p0 : Nat), .int .u64 (p1 : Nat)]) (.agg #[.int .u64 (q0 : Nat), .int .u64 (q1 : Nat)])).run Try.prog w = .ok (decide (((p0, p1) : Rg) = (q0, q1))) w := by
  rw [run_equalIn_struct w 9999 _ _ _ fields_rg stood_rg]
  have hl := fl_rg
  generalize (Try.prog.fieldsOf 51).toList = fs at hl
  have e1 := fun d (x y : Nat) W => run_equalIn_int (P := Try.prog) W d 33 .u64 .u64 (x : Int) (y : Int) Try.underlying33
  rcases fs with _ | ⟨f, _ | ⟨g, _ | ⟨x, fs⟩⟩⟩
  · simp at hl
  · simp at hl
  · simp only [List.map_cons, List.map_nil, List.cons.injEq, Prod.mk.injEq, and_true] at hl
    obtain ⟨⟨n1, t1, o1⟩, n2, t2, o2⟩ := hl
    simp only [Op.eqFields, n1, n2, t1, t2, o1, o2]
    simp only [Sem.run_bind, ne_eq, String.reduceEq, not_false_eq_true, if_true, (part_rg _ _ _).1, Result.andThen_ok, e1 9998]
    by_cases h1 : p0 = q0
    · by_cases h2 : p1 = q1
      · simp [h1, h2, (part_rg _ _ _).2, e1]
      · have h3 : ((p1 : Int) == (q1 : Int)) = false := by simp; omega
        simp [h1, h2, h3, (part_rg _ _ _).2, e1]
    · have h3 : ((p0 : Int) == (q0 : Int)) = false := by simp; omega
      simp [h1, h3]
  · simp at hl
theorem neq_rg (p0 p1 q0 q1 : Nat) (w : World) : (binOp .neq 51 (.agg #[.int .u64 (p0 : Nat), .int .u64 (p1 : Nat)]) (.agg #[.int .u64 (q0 : Nat), .int .u64 (q1 : Nat)])).run Try.prog w = .ok (.bool (!decide (((p0, p1) : Rg) = (q0, q1)))) w := by
  rw [run_neq_struct, equal_rg]; rfl
theorem eql_rg (p0 p1 q0 q1 : Nat) (w : World) : (binOp .eql 51 (.agg #[.int .u64 (p0 : Nat), .int .u64 (p1 : Nat)]) (.agg #[.int .u64 (q0 : Nat), .int .u64 (q1 : Nat)])).run Try.prog w = .ok (.bool (decide (((p0, p1) : Rg) = (q0, q1)))) w := by
  rw [run_eql_struct, equal_rg]; rfl

theorem list_ext_getD {l m : List Rg} (hl : l.length = m.length) (h : ∀ i, i < l.length → l.getD i (0, 0) = m.getD i (0, 0)) : l = m := by
  apply List.ext_getElem hl
  intro i h1 h2
  have := h i h1
  simpa [h1, h2] using this

set_option maxHeartbeats 1000000 in
theorem same_any {w : World} {a a' : Option Addr} {l l' : List Rg} (h : Rr w a l) (h' : Rr w a' l') {n cap n' cap' : Nat} (hn : n = l.length) (hn' : n' = l'.length) (hsz : n < 4611686018427387904) (hsz' : n' < 4611686018427387904) :
    Calls Try.prog 33 #[.slice a n cap, .slice a' n' cap'] w (BoolOf (l = l') w) := by
  have HN := Lib.hid hn; clear hn
  have HN' := Lib.hid hn'; clear hn'
  have H := Lib.hid h; clear h
  have H' := Lib.hid h'; clear h'
  by_cases hne : n = n'
  · subst hne
    have hb : ((n : Int) != (n : Int)) = false := by simp
    go_enter Try.func33, Try.ntmps33
    go_wp2
    clear hb
    go_loopw [5] (fun i wr => ∃ k : Nat, k ≤ n ∧ i = .int .i64 k ∧ Hid (∀ t, t < k → l.getD t (0, 0) = l'.getD t (0, 0)) ∧ Frm [] w wr) (fun i _ => n - (intOf i).toNat)
    case atStart => exact ⟨0, Nat.zero_le _, rfl, fun t ht => absurd ht (Nat.not_lt_zero _), Frm.refl _ _⟩
    case round =>
      obtain ⟨k, hk, rfl, HI, hf⟩ := hrel
      have HF := Lib.hid hf; clear hf
      by_cases hlt : k < n
      · obtain ⟨b, off, rfl, hc⟩ := (H.out.keep0 HF.out).2 (by have := HN.out; omega)
        obtain ⟨b', off', rfl, hc'⟩ := (H'.out.keep0 HF.out).2 (by have := HN'.out; omega)
        obtain ⟨d0, d1⟩ := hc k (by have := HN.out; omega)
        obtain ⟨d0', d1'⟩ := hc' k (by have := HN'.out; omega)
        clear hc hc'
        obtain ⟨x, hx⟩ : ∃ y, y = l.getD k (0, 0) := ⟨_, rfl⟩
        obtain ⟨y, hy⟩ : ∃ y, y = l'.getD k (0, 0) := ⟨_, rfl⟩
        rw [← hx] at d0 d1
        rw [← hy] at d0' d1'
        have HX := Lib.hid hx; clear hx
        have HY := Lib.hid hy; clear hy
        obtain ⟨x0, x1⟩ := x
        obtain ⟨y0, y1⟩ := y
        simp only at d0 d1 d0' d1'
        have hlt' : (k : Int) < (n : Int) := by omega
        by_cases hxy : ((x0, x1) : Rg) = (y0, y1)
        · have e := fun w => neq_rg x0 x1 y0 y1 w
          rw [decide_eq_true hxy] at e
          have HI2 : Hid (∀ t, t < k + 1 → l.getD t (0, 0) = l'.getD t (0, 0)) := by
            intro t ht
            rcases Nat.lt_or_eq_of_le (Nat.le_of_lt_succ ht) with h1 | rfl
            · exact HI.out t h1
            · rw [← HX.out, ← HY.out]; exact hxy
          clear hxy
          go_wp2
          go_quiet (fail)
          go_wp2
          go_roundw
          case rel => exact ⟨k + 1, by omega, by go_num, HI2, HF.out.drewN _⟩
          case measure => simp [intOf]; omega
        · have e := fun w => neq_rg x0 x1 y0 y1 w
          rw [decide_eq_false hxy] at e
          have NE : Hid (l ≠ l') := by
            intro h
            apply hxy
            rw [HX.out, HY.out, h]
          clear hxy
          go_wp2
          go_quiet (fail)
          go_wp2
          go_ret
          exact boolOf_f NE.out (HF.out.drewN _)
      · obtain rfl : k = n := by omega
        go_wp2
        go_ret
        exact boolOf_t (list_ext_getD (by have := HN.out; have := HN'.out; omega) (fun i hi => HI.out i (by have := HN.out; omega))) HF.out
  · have hb : ((n : Int) != (n' : Int)) = true := by simp; omega
    go_enter Try.func33, Try.ntmps33
    go_wp2
    go_ret
    exact boolOf_f (fun h => hne (by rw [HN.out, HN'.out, h])) (Frm.refl _ _)
end Go.Proofs.Ytolmpmihchjmlaa
