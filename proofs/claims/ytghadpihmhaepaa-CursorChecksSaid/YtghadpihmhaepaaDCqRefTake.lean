/- Contract of the document's Take, of a cursor. -/
import Derived.Test.YtghadpihmhaepaaDCqRefRd
import Derived.Test.YtghadpihmhaepaaDCuRight
import Derived.Test.YtghadpihmhaepaaDCqRight
import Derived.Deep.CutBlock
namespace Go.Proofs.Ytghadpihmhaepaa
open Go.RowKit
set_option maxRecDepth 100000
theorem stepQ {α β γ : Type} {p : β → Option (α × β)} {f : α × β → Option γ} {o o' : Option β} {v : α} (h : o.bind p = o'.map (Prod.mk v)) : o.bind (fun l => (p l).bind f) = o'.bind (fun l => f (v, l)) := by
  have h1 : o.bind (fun l => (p l).bind f) = (o.bind p).bind f := by cases o <;> rfl
  rw [h1, h]
  cases o' <;> rfl
theorem pMany_nextQ {α : Type} {p : List Nat → Option (α × List Nat)} {o3 o o' : Option (List Nat)} {i : Nat} {X : List α} {x : α} (h : o3.bind (pMany p i) = o.map (Prod.mk X)) (hx : o.bind p = o'.map (Prod.mk x)) : o3.bind (pMany p (i + 1)) = o'.map (Prod.mk (X ++ [x])) := by
  have e : pMany p (i + 1) = fun l => (pMany p i l).bind fun a => (p a.2).bind fun b => some (a.1 ++ [b.1], b.2) := funext (pMany_snoc p i)
  rw [e, stepQ (f := fun a => (p a.2).bind fun b => some (a.1 ++ [b.1], b.2)) h]
  simp only
  rw [stepQ (f := fun b => some (X ++ [b.1], b.2)) hx]
  cases o' <;> rfl
theorem pMany_noneQ {α : Type} {p : List Nat → Option (α × List Nat)} {o3 : Option (List Nat)} {i n : Nat} (h : o3.bind (pMany p i) = none) (hi : i ≤ n) : o3.bind (pMany p n) = none := by
  cases o3 with
  | none => rfl
  | some l =>
    simp only [Option.bind_some] at h ⊢
    have := pMany_fail h (n - i)
    rwa [show i + (n - i) = n by omega] at this
theorem pMany_doneQ {α : Type} {p : List Nat → Option (α × List Nat)} {o3 o : Option (List Nat)} {i n : Nat} {X : List α} (h : o3.bind (pMany p i) = o.map (Prod.mk X)) (hi : i ≤ n) (hd : i = n ∨ o = none) : o3.bind (pMany p n) = o.map (Prod.mk X) := by
  rcases hd with rfl | rfl
  · exact h
  · exact pMany_noneQ h hi
theorem pRg_stepsQ {o a b : Option (List Nat)} {lo hi : Nat} (h1 : o.bind (pW 8) = a.map (Prod.mk lo)) (h2 : a.bind (pW 8) = b.map (Prod.mk hi)) : o.bind pRg = b.map (Prod.mk (lo, hi)) := by
  show o.bind (fun l => (pW 8 l).bind fun a => (pW 8 a.2).bind fun b => some ((a.1, b.1), b.2)) = _
  rw [stepQ (f := fun a => (pW 8 a.2).bind fun b => some ((a.1, b.1), b.2)) h1]
  simp only
  rw [stepQ (f := fun b => some ((lo, b.1), b.2)) h2]
  cases b <;> rfl
theorem pHel_stepsQ {o a b c : Option (List Nat)} {led k : Nat} {L : List Rg} (h1 : o.bind (pW 8) = a.map (Prod.mk led)) (h2 : a.bind (pW 2) = b.map (Prod.mk k)) (h3 : b.bind (pMany pRg k) = c.map (Prod.mk L)) : o.bind pHel = c.map (Prod.mk (led, L)) := by
  show o.bind (fun l => (pW 8 l).bind fun a => (pW 2 a.2).bind fun b => (pMany pRg b.1 b.2).bind fun c => some ((a.1, c.1), c.2)) = _
  rw [stepQ (f := fun a => (pW 2 a.2).bind fun b => (pMany pRg b.1 b.2).bind fun c => some ((a.1, c.1), c.2)) h1]
  simp only
  rw [stepQ (f := fun b => (pMany pRg b.1 b.2).bind fun c => some ((led, c.1), c.2)) h2]
  simp only
  rw [stepQ (f := fun c => some ((led, c.1), c.2)) h3]
  cases c <;> rfl
theorem pCrs_stepsQ {o a b c d : Option (List Nat)} {ml me n : Nat} {H : List Hel} (h1 : o.bind (pW 8) = a.map (Prod.mk ml)) (h2 : a.bind (pW 8) = b.map (Prod.mk me)) (h3 : b.bind (pW 2) = c.map (Prod.mk n)) (h4 : c.bind (pMany pHel n) = d.map (Prod.mk H)) : o.bind pCrs = d.map (Prod.mk (⟨⟨ml, me⟩, H⟩ : Crs)) := by
  show o.bind (fun l => (pW 8 l).bind fun a => (pW 8 a.2).bind fun b => (pW 2 b.2).bind fun c => (pMany pHel c.1 c.2).bind fun d => some ((⟨⟨a.1, b.1⟩, d.1⟩ : Crs), d.2)) = _
  rw [stepQ (f := fun a => (pW 8 a.2).bind fun b => (pW 2 b.2).bind fun c => (pMany pHel c.1 c.2).bind fun d => some ((⟨⟨a.1, b.1⟩, d.1⟩ : Crs), d.2)) h1]
  simp only
  rw [stepQ (f := fun b => (pW 2 b.2).bind fun c => (pMany pHel c.1 c.2).bind fun d => some ((⟨⟨ml, b.1⟩, d.1⟩ : Crs), d.2)) h2]
  simp only
  rw [stepQ (f := fun c => (pMany pHel c.1 c.2).bind fun d => some ((⟨⟨ml, me⟩, d.1⟩ : Crs), d.2)) h3]
  simp only
  rw [stepQ (f := fun d => some ((⟨⟨ml, me⟩, d.1⟩ : Crs), d.2)) h4]
  cases d <;> rfl
/-- A cursor that was taken. -/
structure Tkn (w : World) (a : Option Addr) (n cap : Nat) (Z : List Hx) : Prop where
  hl : HxL w [] a Z
  len : n = Z.length
  few : n < 65536
  rgs : ∀ x ∈ Z, x.t.2.length < 65536
/-- What the document's Take leaves. -/
def RtkE (w : World) (Bm rb : Nat) (l : List Nat) (e : Ending) (w' : World) : Prop :=
  ∃ (D : Ps) (a : Option Addr) (n cap : Nat), e = .returned (crsV D a n cap) ∧ Hid (Frm [rb] w w') ∧ Hid ((pCrs l = none ∧ RQ w' Bm rb none) ∨ (∃ C m, pCrs l = some (C, m) ∧ ¬ OkC C ∧ RqF w' rb) ∨ (∃ Z m, pCrs l = some (⟨D, hels Z⟩, m) ∧ OkC ⟨D, hels Z⟩ ∧ RQ w' Bm rb (some m) ∧ Tkn w' a n cap Z ∧ D.fits ∧ HxL w' [rb] a Z))
/-- While held entries are taken. -/
def TkRel (W4 : World) (gz g rb Bm ml me : Nat) (o3 : Option (List Nat)) (i : Nat) (z : World) : Prop :=
  ∃ (a : Option Addr) (sn cS : Nat) (S : List Hx) (o : Option (List Nat)), Hid (sn = S.length) ∧ Hid (sn ≤ i) ∧ Hid (Whole z g 28 #[.int .u64 (ml : Nat), .int .u64 (me : Nat), .slice a sn cS]) ∧ Hid (HxOwn z W4.heap.size 55 [g, rb, gz] a cS S) ∧ Hid (RQ z Bm rb o) ∧ Hid (o3.bind (pMany pHel i) = o.map (Prod.mk (hels S))) ∧ Hid (∀ x ∈ S, x.t.2.length < 65536) ∧ Hid (Frm [g, rb] W4 z)
/-- While ranges are taken. -/
def TkIn (W6 : World) (y rb Bm led : Nat) (ok : Option (List Nat)) (j : Nat) (z : World) : Prop :=
  ∃ (a : Option Addr) (ln cL : Nat) (L : List Rg) (o : Option (List Nat)), Hid (ln = L.length) ∧ Hid (ln ≤ j) ∧ Hid (Whole z y 55 #[.int .u64 (led : Nat), .slice a ln cL]) ∧ Hid (OwnR z W6.heap.size a cL L) ∧ Hid (Bd L) ∧ Hid (RQ z Bm rb o) ∧ Hid (ok.bind (pMany pRg j) = o.map (Prod.mk L)) ∧ Hid (Frm [y, rb] W6 z)
set_option linter.unusedSimpArgs false in
set_option maxHeartbeats 16000000 in
theorem crtake_any {w : World} {Bm rb : Nat} {l : List Nat} (hr : RQ w Bm rb (some l)) :
    Calls Try.prog 32 #[.pointer (some ⟨rb, 0, none⟩)] w (RtkE w Bm rb l) := by
  obtain ⟨w1, hw1⟩ : ∃ w1, w1 = (w.alloc (.cells #[.int .u64 0, .int .u64 0, .slice none 0 0] 28)).alloc (.cells #[.int .u64 0, .int .u64 0, .slice none 0 0] 28) := ⟨_, rfl⟩
  obtain ⟨g, hg⟩ : ∃ g, g = w.heap.size := ⟨_, rfl⟩
  have F1 : Hid (Frm [] w w1) := Lib.hid (by rw [hw1]; exact ((Frm.refl _ _).alloc _).alloc _)
  have B0 : Hid (Whole w1 g 28 #[.int .u64 0, .int .u64 0, .slice none 0 0]) := Lib.hid (by rw [hw1, hg]; exact (Whole.made _ _ _).alloc _)
  have B1 : Hid (Whole w1 (g + 1) 28 #[.int .u64 0, .int .u64 0, .slice none 0 0]) := Lib.hid (by
    rw [hw1, hg]
    have := Whole.made (w.alloc (.cells #[.int .u64 0, .int .u64 0, .slice none 0 0] 28)) 28 #[.int .u64 0, .int .u64 0, .slice none 0 0]
    rwa [World.size_alloc] at this)
  have GB : Hid (Bm ≤ rb ∧ rb < g) := Lib.hid (by have := hr.lt; omega)
  have GS : Hid (g = w.heap.size) := Lib.hid hg
  have RD1 : Hid (RQ w1 Bm rb (some l)) := Lib.hid (hr.keep F1.out (by simp) (by simp))
  obtain ⟨i0, hi, hz0, hz1, hz2⟩ := info_parts infoHe
  have HI := Lib.hid hi; clear hi
  have HZ0 := Lib.hid hz0; clear hz0
  have HZ1 := Lib.hid hz1; clear hz1
  have HZ2 := Lib.hid hz2; clear hz2
  obtain ⟨j0, hj, hy0, hy1, hy2⟩ := info_parts Try.info71
  have RI := Lib.hid hj; clear hj
  have RZ0 := Lib.hid hy0; clear hy0
  have RZ1 := Lib.hid hy1; clear hy1
  have RZ2 := Lib.hid hy2; clear hy2
  obtain ⟨Q, hQ⟩ : ∃ Q, Q = RtkE w Bm rb l := ⟨_, rfl⟩
  rw [← hQ]
  have HQ := Lib.hid hQ; clear hQ hr
  have V0 : Hid (∀ (z : World) (ul ue : Nat) (a : Option Addr) (sl c : Nat) (tm : Array Value), tm.getD 2 undef = .pointer (some ⟨g, 0, none⟩) → Whole z g 28 #[.int .u64 (ul : Nat), .int .u64 (ue : Nat), .slice a sl c] → (results Try.f32 tm).run Try.prog z = .ok (.agg #[.int .u64 (ul : Nat), .int .u64 (ue : Nat), .slice a sl c]) z) := Lib.hid (fun z ul ue a sl c tm h6 hw => by
    have c0 := hw.cell 0
    have c1 := hw.cell 1
    have c2 := hw.cell 2
    simp at c0 c1 c2
    have h6' : tm[2]?.getD undef = .pointer (some ⟨g, 0, none⟩) := by simpa using h6
    simp [results, Try.results32, go_sem, c0, c1, c2, h6'])
  have HW1 := Lib.hid hw1; clear hw1
  have HG := Lib.hid hg; clear hg
  have N1 := Lib.hid (rq_num 8 8 rfl RD1.out (by decide))
  unfold NumQ at N1
  go_enter Try.func32, Try.ntmps32
  go_upto_region 2 with (fail)
  rw [← HW1.out, ← HG.out]
  go_wp2_with fail
  (with_reducible refine N1.out.mono ?_)
  rintro e w2 ⟨ml, o1, rfl, hp1, hml, hr2, hf2⟩
  have NE1 : Hid (g + 1 ≠ rb ∧ g ≠ rb) := Lib.hid (by have := GB.out; omega)
  have P1 := Lib.hid hp1; clear hp1
  have M1 := Lib.hid hml; clear hml
  have b2 := hf2.whole B1.out (by have := NE1.out; simp; omega)
  have F2 := Lib.hid hf2; clear hf2
  obtain ⟨W2, hW2⟩ : ∃ W, W = w2.setCell ⟨g + 1, 0, none⟩ (.int .u64 (ml : Nat)) := ⟨_, rfl⟩
  have FS2 : Hid (Frm [g + 1] w2 W2) := Lib.hid (by rw [hW2]; exact (Frm.refl _ _).setCell (.inl (by simp)) _)
  have BW2 : Hid (Whole W2 (g + 1) 28 #[.int .u64 (ml : Nat), .int .u64 0, .slice none 0 0]) := Lib.hid (by
    rw [hW2]
    have := b2.put 0 (.int .u64 (ml : Nat))
    simpa using this)
  have RD2 : Hid (RQ W2 Bm rb o1) := Lib.hid (hr2.keep FS2.out (fun x hx => by have := GB.out; simp at hx; omega) (by have := NE1.out; simp; omega))
  have x0 := b2.cell 0
  have x1 := b2.free 0
  simp only [List.getElem?_toArray, List.getElem?_cons_zero, List.getElem?_cons_succ] at x0
  have N2 := Lib.hid (rq_num 8 8 rfl RD2.out (by decide))
  unfold NumQ at N2
  clear b2 hr2
  go_upto_region 3 with (fail)
  rw [← hW2]
  have HW2 := Lib.hid hW2; clear hW2 x0 x1
  go_wp2_with fail
  (with_reducible refine N2.out.mono ?_)
  rintro e w3 ⟨me, o2, rfl, hp2, hme, hr3, hf3⟩
  have P2 := Lib.hid hp2; clear hp2
  have M2 := Lib.hid hme; clear hme
  have b3 := hf3.whole BW2.out (by have := NE1.out; simp; omega)
  have F3 := Lib.hid hf3; clear hf3
  obtain ⟨W3, hW3⟩ : ∃ W, W = w3.setCell ⟨g + 1, 1, none⟩ (.int .u64 (me : Nat)) := ⟨_, rfl⟩
  have FS3 : Hid (Frm [g + 1] w3 W3) := Lib.hid (by rw [hW3]; exact (Frm.refl _ _).setCell (.inl (by simp)) _)
  have BW3 : Hid (Whole W3 (g + 1) 28 #[.int .u64 (ml : Nat), .int .u64 (me : Nat), .slice none 0 0]) := Lib.hid (by
    rw [hW3]
    have := b3.put 1 (.int .u64 (me : Nat))
    simpa using this)
  have RD3 : Hid (RQ W3 Bm rb o2) := Lib.hid (hr3.keep FS3.out (fun x hx => by have := GB.out; simp at hx; omega) (by have := NE1.out; simp; omega))
  have x0 := b3.cell 1
  have x1 := b3.free 1
  simp only [List.getElem?_toArray, List.getElem?_cons_zero, List.getElem?_cons_succ] at x0
  have N3 := Lib.hid (rq_num 2 2 rfl RD3.out (by decide))
  unfold NumQ at N3
  clear b3 hr3
  go_upto_region 4 with (fail)
  rw [← hW3]
  have HW3 := Lib.hid hW3; clear hW3 x0 x1
  go_wp2_with fail
  (with_reducible refine N3.out.mono ?_)
  rintro e W4 ⟨n, o3, rfl, hp3, hn3, hr4, hf4⟩
  have P3 := Lib.hid hp3; clear hp3
  have RD4 := Lib.hid hr4; clear hr4
  have F4 := Lib.hid hf4; clear hf4
  have n65 : n < 65536 := by simpa using hn3
  clear hn3
  have BW4 : Hid (Whole W4 (g + 1) 28 #[.int .u64 (ml : Nat), .int .u64 (me : Nat), .slice none 0 0]) := Lib.hid (F4.out.whole BW3.out (by have := NE1.out; simp; omega))
  have F14 : Hid (Frm [g + 1, rb] w1 W4) := Lib.hid (((F2.out.trans FS2.out (U := [g + 1, rb]) (by simp) (by simp)).trans (F3.out.trans FS3.out (U := [g + 1, rb]) (by simp) (by simp)) (U := [g + 1, rb]) (by simp) (fun x hx => .inl hx)).trans F4.out (by simp) (by simp))
  have B04 : Hid (Whole W4 g 28 #[.int .u64 0, .int .u64 0, .slice none 0 0]) := Lib.hid (F14.out.whole B0.out (by have := NE1.out; simp; omega))
  have wn : IntKind.i64.wrap (n : Int) = (n : Int) := by simp [IntKind.wrap, IntKind.bits, IntKind.signed]; omega
  have START : Hid (TkRel W4 g (g + 1) rb Bm ml me o3 0 W4) := Lib.hid ⟨none, 0, 0, [], o3, Lib.hid rfl, Lib.hid (Nat.le_refl _), BW4, Lib.hid (HxOwn.nil _ _ _ _), RD4, Lib.hid (by cases o3 <;> rfl), Lib.hid (by simp), Lib.hid (Frm.refl _ _)⟩
  go_upto_block 0 with fail
  clear wn
  go_cut [5] from 5 to 70 (fun _ wx => TkRel W4 g (g + 1) rb Bm ml me o3 n wx)
  case first =>
    go_wp2_with fail
    go_loopw [5] (fun s5 wr => ∃ i : Nat, i ≤ n ∧ s5 = .int .i64 (i : Nat) ∧ Hid (TkRel W4 g (g + 1) rb Bm ml me o3 i wr)) (fun s5 _ => n - (intOf s5).toNat)
    case atStart => exact ⟨0, Nat.zero_le _, rfl, START⟩
    case round =>
      obtain ⟨i, hi, rfl, hrr⟩ := hrel
      obtain ⟨a, sn, cS, S, o, HSN, HSI, HB, HO, HR, HP, HX, HF⟩ := hrr.out
      clear hrr
      by_cases hlt : i < n
      rotate_left 1
      · obtain rfl : i = n := by omega
        go_wp2
        go_meet
        case rel => exact ⟨a, sn, cS, S, o, HSN, HSI, HB, HO, HR, HP, HX, HF⟩
      have hlt' : (i : Int) < (n : Int) := by omega
      obtain ⟨code, hc1, hc2⟩ := HR.out.code
      by_cases hc0 : code = 0
      rotate_left 1
      · have bc : ((code : Int) == 0) = false := by rw [beq_eq_false_iff_ne]; omega
        have ON : o = none := by
          cases o with
          | none => rfl
          | some _ => exact absurd (hc2.2 (by simp)) hc0
        have FIN : Hid (TkRel W4 g (g + 1) rb Bm ml me o3 n wr) := Lib.hid ⟨a, sn, cS, S, o, HSN, Lib.hid (by have := HSI.out; omega), HB, HO, HR, Lib.hid (pMany_doneQ HP.out hi (.inr ON)), HX, HF⟩
        clear hc2 hc0 ON
        go_wp2
        go_meet
        case rel => exact FIN.out
      subst hc0
      clear hc2
      have N5 := Lib.hid (rq_num 8 8 rfl HR.out (by decide))
      unfold NumQ at N5
      go_wp2_with fail
      (with_reducible refine N5.out.mono ?_)
      rintro e w5 ⟨led, oa, rfl, hpa, hled, hr5, hf5⟩
      have PA := Lib.hid hpa; clear hpa
      have LED : Hid (led < 18446744073709551616) := Lib.hid hled; clear hled
      have F5 := Lib.hid hf5; clear hf5
      obtain ⟨W6, hW6⟩ : ∃ W, W = w5.alloc (.cells #[.int .u64 (led : Nat), .slice none 0 0] 55) := ⟨_, rfl⟩
      obtain ⟨y6, hy6⟩ : ∃ y, y = w5.heap.size := ⟨_, rfl⟩
      have F56 : Hid (Frm [] w5 W6) := Lib.hid (by rw [hW6]; exact (Frm.refl _ _).alloc _)
      have B6 : Hid (Whole W6 y6 55 #[.int .u64 (led : Nat), .slice none 0 0]) := Lib.hid (by rw [hW6, hy6]; exact Whole.made _ _ _)
      have F46 : Hid (Frm [g + 1, rb] wr W6) := Lib.hid (F5.out.trans F56.out (by simp) (by simp))
      have F4W : Hid (Frm [g + 1, rb] W4 W6) := Lib.hid (HF.out.trans F46.out (by simp) (fun x hx => .inl hx))
      have HO6 : Hid (HxOwn W6 W4.heap.size 55 [g + 1, rb, g] a cS S) := Lib.hid (HO.out.keep F46.out (fun x hx => .inl (by simp at hx; rcases hx with rfl | rfl <;> simp)) (fun x hx => .inl hx))
      have HB6 : Hid (Whole W6 (g + 1) 28 #[.int .u64 (ml : Nat), .int .u64 (me : Nat), .slice a sn cS]) := Lib.hid (F56.out.whole (F5.out.whole HB.out (by have := NE1.out; simp; omega)) (by simp))
      have Y6 : Hid (W4.heap.size ≤ y6 ∧ g + 1 < y6 ∧ rb < y6 ∧ y6 < W6.heap.size) := Lib.hid (by
        have h1 := HF.out.size
        have h2 := F5.out.size
        have h3 := HB.out.lt
        have h4 := GB.out
        have h5 := B6.out.lt
        omega)
      have RD6 : Hid (RQ W6 Bm rb oa) := Lib.hid (hr5.keep F56.out (by simp) (by simp))
      have N6 := Lib.hid (rq_num 2 2 rfl RD6.out (by decide))
      unfold NumQ at N6
      clear hr5 hc1
      go_upto_region 9 with (fail)
      rw [← hW6, ← hy6]
      have HW6 := Lib.hid hW6; clear hW6
      have HY6 := Lib.hid hy6; clear hy6
      go_wp2_with fail
      (with_reducible refine N6.out.mono ?_)
      rintro e W7 ⟨kk, ok, rfl, hpk, hkk, hr7, hf7⟩
      have PK := Lib.hid hpk; clear hpk
      have k65 : kk < 65536 := by simpa using hkk
      clear hkk
      have RD7 := Lib.hid hr7; clear hr7
      have F7 := Lib.hid hf7; clear hf7
      have B7 : Hid (Whole W7 y6 55 #[.int .u64 (led : Nat), .slice none 0 0]) := Lib.hid (F7.out.whole B6.out (by have := Y6.out; simp; omega))
      have wk : IntKind.i64.wrap (kk : Int) = (kk : Int) := by simp [IntKind.wrap, IntKind.bits, IntKind.signed]; omega
      have ST2 : Hid (TkIn W7 y6 rb Bm led ok 0 W7) := Lib.hid ⟨none, 0, 0, [], ok, Lib.hid rfl, Lib.hid (Nat.le_refl _), B7, Lib.hid (OwnR.nil _ _), Lib.hid (by intro p hp; simp at hp), RD7, Lib.hid (by cases ok <;> rfl), Lib.hid (Frm.refl _ _)⟩
      go_upto_block 2 with fail
      clear wk
      go_cut [8, 9, 40] from 22 to 70 (fun _ _ _ wx => TkIn W7 y6 rb Bm led ok kk wx)
      case first =>
        go_wp2_with fail
        go_loopw [8] (fun s8 wi => ∃ j : Nat, j ≤ kk ∧ s8 = .int .i64 (j : Nat) ∧ Hid (TkIn W7 y6 rb Bm led ok j wi)) (fun s8 _ => kk - (intOf s8).toNat)
        case atStart => exact ⟨0, Nat.zero_le _, rfl, ST2⟩
        case round =>
          obtain ⟨j, hj, rfl, hrr⟩ := hrel
          obtain ⟨aL, ln, cL, L, oL, HLN, HLJ, JB, JO, JBD, JR, JP, JF⟩ := hrr.out
          clear hrr
          by_cases hlj : j < kk
          rotate_left 1
          · obtain rfl : j = kk := by omega
            go_wp2
            go_meet
            case rel => exact ⟨aL, ln, cL, L, oL, HLN, HLJ, JB, JO, JBD, JR, JP, JF⟩
          have hlj' : (j : Int) < (kk : Int) := by omega
          obtain ⟨code, hc1, hc2⟩ := JR.out.code
          by_cases hc0 : code = 0
          rotate_left 1
          · have bc : ((code : Int) == 0) = false := by rw [beq_eq_false_iff_ne]; omega
            have ON : oL = none := by
              cases oL with
              | none => rfl
              | some _ => exact absurd (hc2.2 (by simp)) hc0
            have FIN : Hid (TkIn W7 y6 rb Bm led ok kk wr) := Lib.hid ⟨aL, ln, cL, L, oL, HLN, Lib.hid (by have := HLJ.out; omega), JB, JO, JBD, JR, Lib.hid (pMany_doneQ JP.out hj (.inr ON)), JF⟩
            clear hc2 hc0 ON
            go_wp2
            go_meet
            case rel => exact FIN.out
          subst hc0
          clear hc2
          obtain ⟨W8, hW8⟩ : ∃ W, W = wr.alloc (.cells #[.int .u64 0, .int .u64 0] 71) := ⟨_, rfl⟩
          obtain ⟨y8, hy8⟩ : ∃ y, y = wr.heap.size := ⟨_, rfl⟩
          have F8 : Hid (Frm [] wr W8) := Lib.hid (by rw [hW8]; exact (Frm.refl _ _).alloc _)
          have B8 : Hid (Whole W8 y8 71 #[.int .u64 0, .int .u64 0]) := Lib.hid (by rw [hW8, hy8]; exact Whole.made _ _ _)
          have Y8 : Hid (y6 < y8 ∧ rb < y8 ∧ Bm ≤ y8 ∧ (∀ x, aL = some x → x.block < y8)) := Lib.hid (by
            have h1 := JB.out.lt
            have h2 := Y6.out
            have h4 := GB.out
            exact ⟨by omega, by omega, by omega, fun x hx => by rw [hy8]; exact (JO.out.lt x hx).2⟩)
          have RD8 : Hid (RQ W8 Bm rb oL) := Lib.hid (JR.out.keep F8.out (by simp) (by simp))
          have N8 := Lib.hid (rq_num 8 8 rfl RD8.out (by decide))
          unfold NumQ at N8
          go_upto_region 14 with (fail)
          rw [← hW8, ← hy8]
          clear hc1
          have HW8 := Lib.hid hW8; clear hW8
          have HY8 := Lib.hid hy8; clear hy8
          go_wp2_with fail
          (with_reducible refine N8.out.mono ?_)
          rintro e w9 ⟨lo, oA, rfl, hpA, hlo, hr9, hf9⟩
          have PLO := Lib.hid hpA; clear hpA
          have LO := Lib.hid hlo; clear hlo
          have b9 := hf9.whole B8.out (by have := Y8.out; simp; omega)
          have F9 := Lib.hid hf9; clear hf9
          obtain ⟨W9, hW9⟩ : ∃ W, W = w9.setCell ⟨y8, 0, none⟩ (.int .u64 (lo : Nat)) := ⟨_, rfl⟩
          have FS9 : Hid (Frm [y8] w9 W9) := Lib.hid (by rw [hW9]; exact (Frm.refl _ _).setCell (.inl (by simp)) _)
          have B9 : Hid (Whole W9 y8 71 #[.int .u64 (lo : Nat), .int .u64 0]) := Lib.hid (by
            rw [hW9]
            have := b9.put 0 (.int .u64 (lo : Nat))
            simpa using this)
          have RD9 : Hid (RQ W9 Bm rb oA) := Lib.hid (hr9.keep FS9.out (fun x hx => by have := Y8.out; simp at hx; omega) (by have := Y8.out; simp; omega))
          have x0 := b9.cell 0
          have x1 := b9.free 0
          simp only [List.getElem?_toArray, List.getElem?_cons_zero, List.getElem?_cons_succ] at x0
          have N9 := Lib.hid (rq_num 8 8 rfl RD9.out (by decide))
          unfold NumQ at N9
          clear b9 hr9
          go_upto_region 15 with (fail)
          rw [← hW9]
          have HW9 := Lib.hid hW9; clear hW9 x0 x1
          go_wp2_with fail
          (with_reducible refine N9.out.mono ?_)
          rintro e w10 ⟨hv, oB, rfl, hpB, hhv, hr10, hf10⟩
          have PHI := Lib.hid hpB; clear hpB
          have HIV := Lib.hid hhv; clear hhv
          have b10 := hf10.whole B9.out (by have := Y8.out; simp; omega)
          have F10 := Lib.hid hf10; clear hf10
          obtain ⟨W10, hW10⟩ : ∃ W, W = w10.setCell ⟨y8, 1, none⟩ (.int .u64 (hv : Nat)) := ⟨_, rfl⟩
          have FS10 : Hid (Frm [y8] w10 W10) := Lib.hid (by rw [hW10]; exact (Frm.refl _ _).setCell (.inl (by simp)) _)
          have B10 : Hid (Whole W10 y8 71 #[.int .u64 (lo : Nat), .int .u64 (hv : Nat)]) := Lib.hid (by
            rw [hW10]
            have := b10.put 1 (.int .u64 (hv : Nat))
            simpa using this)
          have RD10 : Hid (RQ W10 Bm rb oB) := Lib.hid (hr10.keep FS10.out (fun x hx => by have := Y8.out; simp at hx; omega) (by have := Y8.out; simp; omega))
          have x0 := b10.cell 1
          have x1 := b10.free 1
          simp only [List.getElem?_toArray, List.getElem?_cons_zero, List.getElem?_cons_succ] at x0
          clear b10 hr10
          go_upto_region 16 with (fail)
          rw [← hW10]
          have HW10 := Lib.hid hW10; clear hW10 x0 x1
          have F810 : Hid (Frm [y8, rb] wr W10) := Lib.hid (((F8.out.trans F9.out (U := [y8, rb]) (by simp) (by simp)).trans FS9.out (U := [y8, rb]) (by simp) (by simp)).trans (F10.out.trans FS10.out (U := [y8, rb]) (by simp) (by simp)) (by simp) (fun x hx => .inl hx))
          have AL7 : Hid (∀ x, aL = some x → W7.heap.size ≤ x.block ∧ y6 < x.block ∧ rb < x.block) := Lib.hid (fun x hx => by
            have h1 := (JO.out.lt x hx).1
            have h2 := Y6.out
            have h3 := F7.out.size
            omega)
          have JB10 : Hid (Whole W10 y6 55 #[.int .u64 (led : Nat), .slice aL ln cL]) := Lib.hid (F810.out.whole JB.out (by have h1 := Y8.out; have h2 := Y6.out; simp; omega))
          have JO10 : Hid (OwnR W10 W7.heap.size aL cL L) := Lib.hid (JO.out.keep F810.out (fun x hx hm => by have h1 := Y8.out.2.2.2 x hx; have h2 := AL7.out x hx; simp at hm; omega))
          have ln65 : ln < 65536 := by have := HLJ.out; omega
          have hfit : ln + 1 ≤ 1000000 := by omega
          have SZ7 : Hid (W7.heap.size ≤ W10.heap.size) := Lib.hid (Nat.le_trans JF.out.size F810.out.size)
          have hbz : W7.heap.size ≤ (W10.alloc (.cells #[.int .u64 (lo : Nat), .int .u64 (hv : Nat)] 71)).heap.size := by have := SZ7.out; simp; omega
          have OWN : Hid ((W10.alloc (.cells #[.int .u64 (lo : Nat), .int .u64 (hv : Nat)] 71)).ownsRow W7.heap.size 71 2 (.slice aL ln cL) ln (fl L)) := Lib.hid (by
            rw [HLN.out]
            exact JO10.out.keep (S := []) ((Frm.refl [] W10).alloc _) (by simp))
          have LHB : Hid (lo < 18446744073709551616 ∧ hv < 18446744073709551616) := Lib.hid ⟨LO.out, HIV.out⟩
          have x0 := B10.out.cell 0
          have x1 := B10.out.cell 1
          have x2 := JB10.out.cell 1
          simp only [List.getElem?_toArray, List.getElem?_cons_zero, List.getElem?_cons_succ] at x0 x1 x2
          go_wp2_with (at_builtin; refine wpList_appR rfl (.tmp 60) (.tmp 62) 53 rfl W7.heap.size 71 j0 Try.underlying53 RI.out RZ0.out RZ1.out RZ2.out (.slice aL ln cL) ln (fl L) rfl OWN.out _ 1 1 [(lo, hv)] rfl (one_rg (lo, hv) LHB.out) rfl (by intro h; cases h) hfit hbz ?_)
          intro a11 c11 w11 happ
          have HO11 := Lib.hid (own_app happ HLN.out rfl)
          have FAP : Hid (Frm (blk aL) W10 w11) := Lib.hid (frm_app ((Frm.refl _ _).alloc _) happ (fun x hx => .inl (by rw [hx]; simp)))
          have BLK : Hid (∀ x ∈ blk aL, W7.heap.size ≤ x ∧ y6 < x ∧ rb < x) := Lib.hid (fun x hx => by
            cases aL with
            | none => simp at hx
            | some q => simp at hx; rw [hx]; exact AL7.out q rfl)
          have JB11 : Hid (Whole w11 y6 55 #[.int .u64 (led : Nat), .slice aL ln cL]) := Lib.hid (FAP.out.whole JB10.out (fun hm => by have := BLK.out _ hm; omega))
          obtain ⟨W12, hW12⟩ : ∃ W, W = w11.setCell ⟨y6, 1, none⟩ (.slice a11 (ln + 1 : Nat) c11) := ⟨_, rfl⟩
          have FS12 : Hid (Frm [y6] w11 W12) := Lib.hid (by rw [hW12]; exact (Frm.refl _ _).setCell (.inl (by simp)) _)
          have FIN : Hid (TkIn W7 y6 rb Bm led ok (j + 1) W12) := Lib.hid ⟨a11, ln + 1, c11, L ++ [(lo, hv)], oB, Lib.hid (by rw [List.length_append, ← HLN.out]; rfl), Lib.hid (by have := HLJ.out; omega), Lib.hid (by
              rw [hW12]
              have := JB11.out.put 1 (.slice a11 (ln + 1 : Nat) c11)
              simpa using this), Lib.hid (HO11.out.keep FS12.out (fun x hx hm => by
              have h1 := (HO11.out.lt x hx).1
              have h2 := Y6.out
              have h3 := F7.out.size
              simp at hm; omega)), Lib.hid (JBD.out.append (fun p hp => by rw [List.mem_singleton.1 hp]; exact LHB.out)),
            Lib.hid ((RD10.out.keep FAP.out (fun x hx => by have h1 := BLK.out x hx; have h2 := GB.out; omega) (fun hm => by have := BLK.out _ hm; omega)).keep FS12.out (fun x hx => by have h1 := Y6.out; have h2 := GB.out; simp at hx; omega) (by have := Y6.out; simp; omega)),
            Lib.hid (pMany_nextQ JP.out (pRg_stepsQ PLO.out PHI.out)),
            Lib.hid (((JF.out.trans F810.out (U := [y6, rb]) (fun x hx => hx) (fun x hx => by
              simp at hx
              rcases hx with rfl | rfl
              · exact .inr (by have h1 := HY8.out; have h2 := JF.out.size; omega)
              · exact .inl (by simp))).trans FAP.out (U := [y6, rb]) (fun x hx => hx) (fun x hx => .inr (BLK.out x hx).1)).trans FS12.out (fun x hx => hx) (by simp))⟩
          have y0 := JB11.out.cell 1
          have y1 := JB11.out.free 1
          simp only [List.getElem?_toArray, List.getElem?_cons_zero, List.getElem?_cons_succ] at y0
          have HW12 := Lib.hid hW12
          clear happ hbz OWN x0 x1 x2 hW12
          go_upto_region 12 with (fail)
          rw [← HW12.out]
          clear y0 y1
          go_wp2
          go_roundw
          case rel => exact ⟨j + 1, by omega, by go_num, FIN⟩
          case measure => simp [intOf]; omega
      case rest =>
        obtain ⟨aL, ln, cL, L, oL, HLN, HLJ, JB, JO, JBD, JR, JP, JF⟩ := hcut
        have FRC : Hid (Frm [rb] wr wc) := Lib.hid ((((F5.out.trans F56.out (U := [rb]) (fun x hx => hx) (by simp)).trans F7.out (U := [rb]) (fun x hx => hx) (fun x hx => .inl hx))).trans JF.out (fun x hx => hx) (fun x hx => by
          simp at hx
          rcases hx with rfl | rfl
          · exact .inr (by have h1 := HY6.out; have h2 := F5.out.size; omega)
          · exact .inl (by simp)))
        have HBc : Hid (Whole wc (g + 1) 28 #[.int .u64 (ml : Nat), .int .u64 (me : Nat), .slice a sn cS]) := Lib.hid (FRC.out.whole HB.out (by have := NE1.out; simp; omega))
        have HOc : Hid (HxOwn wc W4.heap.size 55 [g + 1, rb, g] a cS S) := Lib.hid (HO.out.keep FRC.out (fun x hx => .inl (by simp at hx; simp [hx])) (fun x hx => .inl hx))
        have RRL := JO.out.rr JBD.out
        have AL7 : Hid (∀ x, aL = some x → W7.heap.size ≤ x.block ∧ g + 1 < x.block ∧ rb < x.block ∧ wr.heap.size ≤ x.block) := Lib.hid (fun x hx => by
          have h1 := (JO.out.lt x hx).1
          have h2 := Y6.out
          have h3 := F7.out.size
          have h4 := HY6.out
          have h5 := F5.out.size
          omega)
        have XOK : Hid (HxOk wc [g + 1, rb, g] ⟨(led, L), aL, cL⟩) := Lib.hid ⟨RRL.1, fun _ q hq hm => by have h1 := AL7.out q hq; simp at hm; omega, RRL.2.1, LED.out, RRL.2.2.1, RRL.2.2.2⟩
        have XB : Hid (∀ q, aL = some q → q.block ∉ blk a) := Lib.hid (fun q hq hm => by
          have h1 := AL7.out q hq
          have h2 := (HO.out.blk_lt _ hm).2
          omega)
        obtain ⟨WA, hWA⟩ : ∃ WA, WA = wc.alloc (.cells #[.int .u64 (led : Nat), .slice aL ln cL] 55) := ⟨_, rfl⟩
        have FA : Hid (Frm [] wc WA) := Lib.hid (by rw [hWA]; exact (Frm.refl _ _).alloc _)
        have HOA : Hid (HxOwn WA W4.heap.size 55 [g + 1, rb, g] a cS S) := Lib.hid (HOc.out.keep FA.out (by simp) (fun x hx => .inl hx))
        have OWN : Hid ((wc.alloc (.cells #[.int .u64 (led : Nat), .slice aL ln cL] 55)).ownsRow W4.heap.size 55 2 (.slice a sn cS) sn (hxc S)) := Lib.hid (by rw [← hWA, HSN.out]; exact HOA.out.own)
        have ONE : Hid (ValsAt (wc.alloc (.cells #[.int .u64 (led : Nat), .slice aL ln cL] 55)) (some ⟨wc.heap.size, 0, none⟩) (hxc [⟨(led, L), aL, cL⟩])) := Lib.hid (by
          have := hxvals_one wc ⟨(led, L), aL, cL⟩ 55
          simp only at this
          rw [← HLN.out] at this
          exact this)
        have sn65 : sn < 65536 := by have := HSI.out; omega
        have hfit : sn + 1 ≤ 1000000000 := by omega
        have SZ4 : Hid (W4.heap.size ≤ wc.heap.size) := Lib.hid (Nat.le_trans HF.out.size FRC.out.size)
        have hbz : W4.heap.size ≤ (wc.alloc (.cells #[.int .u64 (led : Nat), .slice aL ln cL] 55)).heap.size := by have := SZ4.out; simp; omega
        have x0 := JB.out.cell 0
        have x1 := JB.out.cell 1
        have x2 := HBc.out.cell 2
        simp only [List.getElem?_toArray, List.getElem?_cons_zero, List.getElem?_cons_succ] at x0 x1 x2
        have HWA := Lib.hid hWA
        clear hWA RRL
        go_wp2_with (at_builtin; refine wpList_appS (by rfl) (.tmp 66) (.tmp 68) 26 rfl W4.heap.size 55 i0 (.agg #[.int .u64 0, .slice none 0 0]) 2 32 Try.underlying26 HI.out HZ0.out rfl (by decide) HZ1.out HZ2.out (by decide) (.slice a sn cS) sn _ rfl OWN.out _ 1 1 _ rfl ONE.out rfl (hxc_one _) (fun h => by cases h) hfit hbz ?_)
        intro a12 c12 w12 happ
        rw [← HWA.out] at happ
        have g12 := HOA.out.app (n := sn) (m := 1) (Y := [⟨(led, L), aL, cL⟩]) HSN.out (fun y hy => by
          simp only [List.mem_singleton] at hy
          subst hy
          have hq := XOK.out.keep (F' := [g + 1, rb, g]) (S := []) FA.out (by simp) (fun x hx => .inl hx)
          exact ⟨hq.rs, fun hne q hq' hm => (List.mem_append.1 hm).elim (fun h1 => XB.out q hq' h1) (fun h1 => hq.away hne q hq' h1), hq.nil, hq.num, hq.room⟩) rfl (fun x hx => by
          have h1 := HBc.out.lt
          have h2 := FA.out.size
          have h3 := GB.out
          simp at hx; omega) happ
        have BLK : Hid (∀ x ∈ blk a, W4.heap.size ≤ x ∧ g + 1 < x ∧ rb < x) := Lib.hid (fun x hx => by
          have h1 := (HO.out.blk_lt x hx).1
          have h2 := BW4.out.lt
          have h3 := GB.out
          omega)
        have HB12 : Hid (Whole w12 (g + 1) 28 #[.int .u64 (ml : Nat), .int .u64 (me : Nat), .slice a sn cS]) := Lib.hid (g12.2.1.whole (FA.out.whole HBc.out (by simp)) (fun hm => by have := BLK.out _ hm; omega))
        obtain ⟨W13, hW13⟩ : ∃ W, W = w12.setCell ⟨g + 1, 2, none⟩ (.slice a12 (sn + 1 : Nat) c12) := ⟨_, rfl⟩
        have FS13 : Hid (Frm [g + 1] w12 W13) := Lib.hid (by rw [hW13]; exact (Frm.refl _ _).setCell (.inl (by simp)) _)
        have XLL : Hid (L.length < 65536) := Lib.hid (by have h1 := HLN.out; have h2 := HLJ.out; omega)
        have FIN : Hid (TkRel W4 g (g + 1) rb Bm ml me o3 (i + 1) W13) := Lib.hid ⟨a12, sn + 1, c12, S ++ [⟨(led, L), aL, cL⟩], oL, Lib.hid g12.2.2.2, Lib.hid (by have := HSI.out; omega), Lib.hid (by
            rw [hW13]
            have := HB12.out.put 2 (.slice a12 (sn + 1 : Nat) c12)
            simpa using this),
          Lib.hid (g12.1.keep FS13.out (fun x hx => .inl (by simp at hx; simp [hx])) (fun x hx => .inl hx)),
          Lib.hid (((JR.out.keep FA.out (by simp) (by simp)).keep g12.2.1 (fun x hx => by have h1 := BLK.out x hx; have h2 := GB.out; omega) (fun hm => by have := BLK.out _ hm; omega)).keep FS13.out (fun x hx => by have h2 := GB.out; simp at hx; omega) (by have := NE1.out; simp; omega)),
          Lib.hid (by
            rw [hels_append]
            exact pMany_nextQ HP.out (pHel_stepsQ PA.out PK.out JP.out)),
          Lib.hid (fun y hy => by
            rcases List.mem_append.1 hy with h1 | h1
            · exact HX.out y h1
            · simp at h1
              rw [h1]
              exact XLL.out),
          Lib.hid ((((HF.out.trans FRC.out (U := [g + 1, rb]) (fun x hx => hx) (fun x hx => .inl (by simp at hx; simp [hx]))).trans FA.out (U := [g + 1, rb]) (fun x hx => hx) (by simp)).trans g12.2.1 (U := [g + 1, rb]) (fun x hx => hx) (fun x hx => .inr (BLK.out x hx).1)).trans FS13.out (fun x hx => hx) (fun x hx => .inl (by simp at hx; simp [hx])))⟩
        have y0 := HB12.out.cell 2
        have y1 := HB12.out.free 2
        simp only [List.getElem?_toArray, List.getElem?_cons_zero, List.getElem?_cons_succ] at y0
        have HW13 := Lib.hid hW13
        clear happ hbz OWN ONE x0 x1 x2 hW13 g12
        go_upto_region 7 with (fail)
        rw [← HW13.out]
        clear y0 y1
        go_wp2
        go_roundw
        case rel => exact ⟨i + 1, by omega, by go_num, FIN⟩
        case measure => simp [intOf]; omega
  case rest =>
    obtain ⟨a, sn, cS, S, o, HSN, HSI, HB, HO, HR, HP, HX, HF⟩ := hcut
    have PC : Hid (pCrs l = o.map (Prod.mk (⟨⟨ml, me⟩, hels S⟩ : Crs))) := Lib.hid (pCrs_stepsQ (o := some l) P1.out P2.out P3.out HP.out)
    have TK : Hid (Tkn wc a sn cS S) := Lib.hid ⟨HO.out.hl.keep (S := []) (Frm.refl _ _) (by simp) (by simp), HSN.out, by have := HSI.out; omega, HX.out⟩
    have FW : Hid (Frm [rb] w wc) := Lib.hid (F1.out.trans (F14.out.trans HF.out (U := [g + 1, rb]) (fun x hx => hx) (fun x hx => .inl hx)) (by simp) (fun x hx => by
      simp at hx
      rcases hx with rfl | rfl
      · exact .inr (by have := GS.out; omega)
      · exact .inl (by simp)))
    have B0c : Hid (Whole wc g 28 #[.int .u64 0, .int .u64 0, .slice none 0 0]) := Lib.hid (HF.out.whole B04.out (by have := NE1.out; simp; omega))
    clear START HP HI HZ0 HZ1 HZ2 RI RZ0 RZ1 RZ2
    obtain ⟨code, hc1, hc2⟩ := HR.out.code
    have GW : Hid (w.heap.size ≤ g ∧ Bm ≤ g ∧ rb ≠ g) := Lib.hid (by have := GS.out; have := GB.out; omega)
    have DONE : Hid (∀ z, Whole z g 28 #[.int .u64 0, .int .u64 0, .slice none 0 0] → Frm [rb] w z → Whole (((z.setCell ⟨g, 0, none⟩ (.int .u64 (ml : Nat))).setCell ⟨g, 1, none⟩ (.int .u64 (me : Nat))).setCell ⟨g, 2, none⟩ (.slice a sn cS)) g 28 #[.int .u64 (ml : Nat), .int .u64 (me : Nat), .slice a sn cS] ∧ Frm [rb] w (((z.setCell ⟨g, 0, none⟩ (.int .u64 (ml : Nat))).setCell ⟨g, 1, none⟩ (.int .u64 (me : Nat))).setCell ⟨g, 2, none⟩ (.slice a sn cS)) ∧ Frm [g] z (((z.setCell ⟨g, 0, none⟩ (.int .u64 (ml : Nat))).setCell ⟨g, 1, none⟩ (.int .u64 (me : Nat))).setCell ⟨g, 2, none⟩ (.slice a sn cS))) := Lib.hid (fun z hz hf => by
      have h3 : Frm [g] z (((z.setCell ⟨g, 0, none⟩ (.int .u64 (ml : Nat))).setCell ⟨g, 1, none⟩ (.int .u64 (me : Nat))).setCell ⟨g, 2, none⟩ (.slice a sn cS)) := (((Frm.refl _ _).setCell (.inl (by simp)) _).setCell (.inl (by simp)) _).setCell (.inl (by simp)) _
      refine ⟨?_, hf.trans h3 (fun x hx => hx) (fun x hx => .inr (by have := GW.out; simp at hx; omega)), h3⟩
      have := ((hz.put 0 (.int .u64 (ml : Nat))).put 1 (.int .u64 (me : Nat))).put 2 (.slice a sn cS)
      simpa using this)
    cases o with
    | none =>
      have bc : ((code : Int) == 0) = false := by rw [beq_eq_false_iff_ne]; intro h; exact absurd (hc2.1 (by omega)) (by simp)
      clear hc2
      have x0 := HB.out.cell 0
      have x1 := HB.out.cell 1
      have x2 := HB.out.cell 2
      have y0 := B0c.out.cell 0
      have y1 := B0c.out.cell 1
      have y2 := B0c.out.cell 2
      have k0 := B0c.out.free 0
      have k1 := B0c.out.free 1
      have k2 := B0c.out.free 2
      simp only [List.getElem?_toArray, List.getElem?_cons_zero, List.getElem?_cons_succ] at x0 x1 x2 y0 y1 y2
      have D := Lib.hid (DONE.out wc B0c.out FW.out)
      have FIN : Hid (Q (.returned (.agg #[.int .u64 (ml : Nat), .int .u64 (me : Nat), .slice a sn cS])) (((wc.setCell ⟨g, 0, none⟩ (.int .u64 (ml : Nat))).setCell ⟨g, 1, none⟩ (.int .u64 (me : Nat))).setCell ⟨g, 2, none⟩ (.slice a sn cS))) := Lib.hid (by
        rw [HQ.out]
        exact ⟨⟨ml, me⟩, a, sn, cS, rfl, Lib.hid D.out.2.1, Lib.hid (.inl ⟨PC.out, HR.out.keep D.out.2.2 (fun x hx => by have := GW.out; simp at hx; omega) (by have := GW.out; simp; omega)⟩)⟩)
      go_wp2
      refine bodyPost_ret (V0.out _ ml me a sn cS _ rfl D.out.1) rfl ?_
      exact FIN.out
    | some m =>
      obtain rfl : code = 0 := hc2.2 (by simp)
      clear hc2
      have PC : Hid (pCrs l = some (⟨⟨ml, me⟩, hels S⟩, m)) := Lib.hid PC.out
      have RG := Lib.hid (crright_any ⟨ml, me⟩ a sn cS [] S wc TK.out.hl TK.out.len (by have := TK.out.few; omega) (fun x hx => by have := TK.out.rgs x hx; omega))
      have OKI : Hid (RtC ⟨⟨ml, me⟩, hels S⟩ ↔ OkC ⟨⟨ml, me⟩, hels S⟩) := Lib.hid (rtc_iff _)
      unfold BoolOf crsV at RG
      simp only at RG
      have x0 := HB.out.cell 0
      have x1 := HB.out.cell 1
      have x2 := HB.out.cell 2
      simp only [List.getElem?_toArray, List.getElem?_cons_zero, List.getElem?_cons_succ] at x0 x1 x2
      go_wp2_with fail
      (with_reducible refine RG.out.mono ?_)
      rintro e W5 ⟨b, rfl, hb, hf5⟩
      have HBB := Lib.hid (hb.trans OKI.out)
      clear hb x0 x1 x2 hc1
      have FW5 : Hid (Frm [rb] w W5) := Lib.hid (FW.out.trans hf5 (fun x hx => hx) (by simp))
      have B05 : Hid (Whole W5 g 28 #[.int .u64 0, .int .u64 0, .slice none 0 0]) := Lib.hid (hf5.whole B0c.out (by simp))
      have BC5 : Hid (Whole W5 (g + 1) 28 #[.int .u64 (ml : Nat), .int .u64 (me : Nat), .slice a sn cS]) := Lib.hid (hf5.whole HB.out (by simp))
      have RD5 : Hid (RQ W5 Bm rb (some m)) := Lib.hid (HR.out.keep hf5 (by simp) (by simp))
      have HL5 : Hid (HxL W5 [g, rb] a S) := Lib.hid ((HO.out.hl.keep (F' := [g, rb]) hf5 (by simp) (fun x hx => .inl (by simp at hx; rcases hx with rfl | rfl <;> simp))))
      cases b
      · have FL := Lib.hid (rq_fail RD5.out)
        go_wp2_with fail
        (with_reducible refine FL.out.mono ?_)
        rintro e W6 ⟨rfl, hrf, hf6⟩
        have FW6 : Hid (Frm [rb] w W6) := Lib.hid (FW5.out.trans hf6 (fun x hx => hx) (fun x hx => .inl hx))
        have B06 := Lib.hid (hf6.whole B05.out (by have := NE1.out; simp; omega))
        have BC6 := Lib.hid (hf6.whole BC5.out (by have := NE1.out; simp; omega))
        have RF := Lib.hid hrf
        clear hrf hf6
        have x0 := BC6.out.cell 0
        have x1 := BC6.out.cell 1
        have x2 := BC6.out.cell 2
        have y0 := B06.out.cell 0
        have y1 := B06.out.cell 1
        have y2 := B06.out.cell 2
        have k0 := B06.out.free 0
        have k1 := B06.out.free 1
        have k2 := B06.out.free 2
        simp only [List.getElem?_toArray, List.getElem?_cons_zero, List.getElem?_cons_succ] at x0 x1 x2 y0 y1 y2
        have D := Lib.hid (DONE.out W6 B06.out FW6.out)
        have FIN : Hid (Q (.returned (.agg #[.int .u64 (ml : Nat), .int .u64 (me : Nat), .slice a sn cS])) (((W6.setCell ⟨g, 0, none⟩ (.int .u64 (ml : Nat))).setCell ⟨g, 1, none⟩ (.int .u64 (me : Nat))).setCell ⟨g, 2, none⟩ (.slice a sn cS))) := Lib.hid (by
          rw [HQ.out]
          obtain ⟨v, hv⟩ := RF.out
          exact ⟨⟨ml, me⟩, a, sn, cS, rfl, Lib.hid D.out.2.1, Lib.hid (.inr (.inl ⟨_, m, PC.out, fun h => (by have := HBB.out.2 h; cases this), v, D.out.2.2.whole hv (by have := GW.out; simp; omega)⟩))⟩)
        go_wp2
        refine bodyPost_ret (V0.out _ ml me a sn cS _ rfl D.out.1) rfl ?_
        exact FIN.out
      · have x0 := BC5.out.cell 0
        have x1 := BC5.out.cell 1
        have x2 := BC5.out.cell 2
        have y0 := B05.out.cell 0
        have y1 := B05.out.cell 1
        have y2 := B05.out.cell 2
        have k0 := B05.out.free 0
        have k1 := B05.out.free 1
        have k2 := B05.out.free 2
        simp only [List.getElem?_toArray, List.getElem?_cons_zero, List.getElem?_cons_succ] at x0 x1 x2 y0 y1 y2
        have D := Lib.hid (DONE.out W5 B05.out FW5.out)
        have FIN : Hid (Q (.returned (.agg #[.int .u64 (ml : Nat), .int .u64 (me : Nat), .slice a sn cS])) (((W5.setCell ⟨g, 0, none⟩ (.int .u64 (ml : Nat))).setCell ⟨g, 1, none⟩ (.int .u64 (me : Nat))).setCell ⟨g, 2, none⟩ (.slice a sn cS))) := Lib.hid (by
          rw [HQ.out]
          exact ⟨⟨ml, me⟩, a, sn, cS, rfl, Lib.hid D.out.2.1, Lib.hid (.inr (.inr ⟨S, m, PC.out, HBB.out.1 rfl, RD5.out.keep D.out.2.2 (fun x hx => by have := GW.out; simp at hx; omega) (by have := GW.out; simp; omega), ⟨HL5.out.keep D.out.2.2 (fun x hx => .inl (by simp at hx; simp [hx])) (by simp), TK.out.len, TK.out.few, TK.out.rgs⟩, ⟨by have := M1.out; simpa using this, by have := M2.out; simpa using this⟩, HL5.out.keep D.out.2.2 (fun x hx => .inl (by simp at hx; simp [hx])) (fun x hx => .inl (by simp at hx; simp [hx]))⟩))⟩)
        go_wp2
        refine bodyPost_ret (V0.out _ ml me a sn cS _ rfl D.out.1) rfl ?_
        exact FIN.out
end Go.Proofs.Ytghadpihmhaepaa
