/- Contract of cursor.Write. -/
import Derived.Test.YtghadpihmhaepaaCB
import Derived.Test.YtghadpihmhaepaaCD
namespace Go.Proofs.Ytghadpihmhaepaa
open Go.RowKit
set_option maxRecDepth 100000

def encRg (r : Rg) : List Nat := be 8 r.1 ++ be 8 r.2
def encHel (h : Hel) : List Nat := be 8 h.1 ++ be 2 h.2.length ++ h.2.flatMap encRg
def encCrs (c : Crs) : List Nat := be 8 c.mark.l ++ be 8 c.mark.e ++ be 2 c.held.length ++ c.held.flatMap encHel
theorem encRg_length (r : Rg) : (encRg r).length = 16 := by simp [encRg, be_length]
theorem encRgs_length (l : List Rg) : (l.flatMap encRg).length = l.length * 16 := by
  induction l with
  | nil => rfl
  | cons x l ih => rw [List.flatMap_cons, List.length_append, ih, encRg_length, List.length_cons]; omega
theorem encHel_length (h : Hel) : (encHel h).length = 10 + h.2.length * 16 := by
  unfold encHel
  rw [List.length_append, List.length_append, be_length, be_length, encRgs_length]
theorem encHels_length (H : List Hel) (hb : ∀ h ∈ H, h.2.length < 65536) : (H.flatMap encHel).length ≤ H.length * 1048600 := by
  induction H with
  | nil => simp
  | cons x H ih =>
    rw [List.flatMap_cons, List.length_append, encHel_length, List.length_cons]
    have h1 := ih (fun h hh => hb h (by simp [hh]))
    have h2 := hb x (by simp)
    omega
theorem flat_take {α : Type} (f : α → List Nat) (l : List α) (d : α) {k : Nat} (hk : k < l.length) : (l.take (k + 1)).flatMap f = (l.take k).flatMap f ++ f (l.getD k d) := by
  rw [List.take_succ_eq_append_getElem hk, List.flatMap_append]
  simp [hk]
theorem Put.start {w : World} {B p : Nat} {F l : List Nat} (h : Wr w B p F l) : Put w w B p F l [] := ⟨F, by rw [List.append_nil]; exact h, Frm.refl _ _, fun x hx => .inl hx⟩
theorem Put.up {w w1 : World} {B p : Nat} {F l b : List Nat} (h : Put w w1 B p F l b) (o : Obj) : ∃ F1, Wr (w1.alloc o) B p F1 (l ++ b) ∧ Frm F w (w1.alloc o) ∧ (∀ x ∈ F1, x ∈ F ∨ w.heap.size ≤ x) ∧ ∀ x ∈ F1, x < w1.heap.size := by
  obtain ⟨F', h1, h2, h3⟩ := h
  exact ⟨F', h1.keep ((Frm.refl [] w1).alloc o) (by simp), h2.alloc o, h3, fun x hx => (h1.lt x hx).2⟩
theorem Put.u64 {w w1 : World} {B p : Nat} {F l b : List Nat} (h : Put w w1 B p F l b) (n : Nat) (hn : n < 18446744073709551616) (hfit : l.length + b.length + 8 ≤ 140737488355328) :
    Calls Try.prog 82 #[.pointer (some ⟨p, 0, none⟩), .int .u64 n] w1 (fun e w2 => e = .returned (.tuple #[]) ∧ Put w w2 B p F l (b ++ be 8 n)) := by
  obtain ⟨F', h1, h2, h3⟩ := h
  exact (u64_any n h1 hn (by rw [List.length_append]; omega)).mono fun e w2 ⟨he, hp⟩ => ⟨he, Put.then h2 h3 hp⟩
theorem Put.u16 {w w1 : World} {B p : Nat} {F l b : List Nat} (h : Put w w1 B p F l b) (n : Nat) (hn : n < 65536) (hfit : l.length + b.length + 2 ≤ 140737488355328) :
    Calls Try.prog 83 #[.pointer (some ⟨p, 0, none⟩), .int .u16 n] w1 (fun e w2 => e = .returned (.tuple #[]) ∧ Put w w2 B p F l (b ++ be 2 n)) := by
  obtain ⟨F', h1, h2, h3⟩ := h
  exact (u16_any n h1 hn (by rw [List.length_append]; omega)).mono fun e w2 ⟨he, hp⟩ => ⟨he, Put.then h2 h3 hp⟩
theorem Put.frm {w w1 : World} {B p : Nat} {F l b : List Nat} (h : Put w w1 B p F l b) : Frm F w w1 := h.choose_spec.2.1
set_option maxHeartbeats 8000000 in
theorem cqwrite_any {w : World} {B p : Nat} {F l : List Nat} (m : Ps) (a : Option Addr) (n cap : Nat) (Y : List Hx) (hW : Wr w B p F l) (h : HxL w F a Y) (hn : n = Y.length) (hsz : n < 65536) (hr : ∀ x ∈ Y, x.t.2.length < 65536) (hm : m.fits) (hfit : l.length ≤ 100000) :
    Calls Try.prog 58 #[.pointer (some ⟨p, 0, none⟩), crsV m a n cap] w (PutEnd w B p F l (encCrs ⟨m, hels Y⟩)) := by
  obtain ⟨w1, hw1⟩ : ∃ w1, w1 = w.alloc (.cells #[.int .u64 (m.l : Nat), .int .u64 (m.e : Nat), .slice a n cap] 28) := ⟨_, rfl⟩
  have F1 : Hid (Frm [] w w1) := Lib.hid (by rw [hw1]; exact (Frm.refl _ _).alloc _)
  obtain ⟨g, hg⟩ : ∃ g, g = w.heap.size := ⟨_, rfl⟩
  have B1 : Hid (Whole w1 g 28 #[.int .u64 (m.l : Nat), .int .u64 (m.e : Nat), .slice a n cap]) := Lib.hid (by rw [hw1, hg]; exact Whole.made _ _ _)
  have GF : Hid (g ∉ F) := Lib.hid (fun hm => by have := (hW.lt _ hm).2; omega)
  have H1 : Hid (HxL w1 F a Y) := Lib.hid (h.keep F1.out (by simp) (fun x hx => .inl hx))
  have W1 := Lib.hid (Put.start (hW.keep F1.out (by simp)))
  obtain ⟨Q, hQ⟩ : ∃ Q, Q = PutEnd w B p F l (encCrs ⟨m, hels Y⟩) := ⟨_, rfl⟩
  rw [← hQ]
  have FIN : Hid (∀ w', Put w1 w' B p F l (encCrs ⟨m, hels Y⟩) → Q (.returned (.tuple #[])) w') := Lib.hid (fun w' hp => by rw [hQ]; exact ⟨rfl, hp.early F1.out⟩)
  have HN := Lib.hid hn; clear hn
  have HR := Lib.hid hr; clear hr
  have LF := Lib.hid hfit; clear hfit
  obtain ⟨ml, me⟩ := m
  have M1 := Lib.hid hm.1
  have M2 := Lib.hid hm.2
  unfold encCrs at FIN
  simp only [hels_length] at FIN
  rw [← HN.out] at FIN
  have EL : Hid (∀ k, (((hels Y).take k).flatMap encHel).length ≤ 70000000000) := Lib.hid (fun k => by
    have h1 := encHels_length ((hels Y).take k) (fun h hh => by
      have h2 := List.mem_of_mem_take hh
      obtain ⟨x, hx, rfl⟩ := List.mem_map.1 h2
      exact HR.out x hx)
    have h3 : ((hels Y).take k).length ≤ n := by rw [HN.out, ← hels_length Y]; exact List.length_take_le' k _
    have h4 : ((hels Y).take k).length * 1048600 ≤ n * 1048600 := Nat.mul_le_mul_right _ h3
    omega)
  unfold crsV
  simp only at hw1 B1 M1 M2 FIN ⊢
  have HW1 := Lib.hid hw1
  clear hw1 hQ hm hW h
  have r0 : ∀ z, Frm F w1 z → z.cell? ⟨g, 0, none⟩ = some (.int .u64 (ml : Nat)) := fun z hz => (hz.whole B1.out GF.out).cell 0
  have r1 : ∀ z, Frm F w1 z → z.cell? ⟨g, 1, none⟩ = some (.int .u64 (me : Nat)) := fun z hz => (hz.whole B1.out GF.out).cell 1
  have r2 : ∀ z, Frm F w1 z → z.cell? ⟨g, 2, none⟩ = some (.slice a n cap) := fun z hz => (hz.whole B1.out GF.out).cell 2
  have wn : IntKind.u16.wrap (n : Int) = (n : Int) := by simp [IntKind.wrap, IntKind.bits, IntKind.signed]; omega
  go_enter Try.func58, Try.ntmps58
  go_upto_region 1 with (fail)
  rw [← HW1.out, ← hg]
  have HG := Lib.hid hg; clear hg
  have x0 := r0 _ (Frm.refl _ _)
  go_wp2_with fail
  (with_reducible refine (W1.out.u64 ml M1.out (by have := LF.out; simp; omega)).mono ?_)
  rintro e w2 ⟨rfl, hp⟩
  have P2 := Lib.hid hp; clear hp x0 W1
  have x1 := r1 _ P2.out.frm
  go_wp2_with fail
  (with_reducible refine (P2.out.u64 me M2.out (by have := LF.out; simp [be_length]; omega)).mono ?_)
  rintro e w3 ⟨rfl, hp⟩
  have P3 := Lib.hid hp; clear hp x1 P2
  have x2 := r2 _ P3.out.frm
  go_wp2_with fail
  (with_reducible refine (P3.out.u16 n hsz (by have := LF.out; simp [be_length]; omega)).mono ?_)
  rintro e w4 ⟨rfl, hp⟩
  have P4 := Lib.hid hp; clear hp x2 P3
  have x2 := r2 _ P4.out.frm
  obtain ⟨hd, hhd⟩ : ∃ hd, hd = be 8 ml ++ be 8 me ++ be 2 n := ⟨_, rfl⟩
  have HDL : Hid (hd.length = 18) := Lib.hid (by rw [hhd]; simp [be_length])
  rw [List.nil_append, ← hhd] at P4
  rw [← hhd] at FIN
  clear hhd
  go_wp2
  go_loopw [27] (fun s27 wr => ∃ k : Nat, k ≤ n ∧ s27 = .int .i64 (k : Nat) ∧ Hid (Put w1 wr B p F l (hd ++ ((hels Y).take k).flatMap encHel))) (fun s27 _ => n - (intOf s27).toNat)
  case atStart => exact ⟨0, Nat.zero_le _, rfl, Lib.hid (by simpa using P4.out)⟩
  case round =>
    obtain ⟨k, hk, rfl, HP⟩ := hrel
    by_cases hlt : k < n
    · have hlt' : (k : Int) < (n : Int) := by omega
      have kY : k < Y.length := by have := HN.out; omega
      have hok1 := (H1.out.at (i := k) kY).choose_spec.choose_spec.2.2.2
      obtain ⟨b, off, rfl, d0, d1, hok⟩ := (H1.out.keep HP.out.frm (F' := []) (fun x hx => .inl hx) (by simp)).at (i := k) kY
      have EK := hels_getD Y k
      have TK := flat_take encHel (hels Y) default (k := k) (by rw [hels_length]; exact kY)
      rw [EK] at TK
      obtain ⟨x, hx⟩ : ∃ x, x = Y.getD k default := ⟨_, rfl⟩
      have XL : Hid (x.t.2.length < 65536) := Lib.hid (HR.out x (by rw [hx]; simp [kY]))
      rw [← hx] at d0 d1 hok TK hok1
      have OK1 := Lib.hid hok1
      have OK := Lib.hid hok
      have TK := Lib.hid TK
      have LB : Hid ((hd ++ ((hels Y).take k).flatMap encHel).length ≤ 70000000000 + 18) := Lib.hid (by have h1 := HDL.out; have h2 := EL.out k; rw [List.length_append]; omega)
      obtain ⟨b0, hb0⟩ : ∃ b0, b0 = hd ++ ((hels Y).take k).flatMap encHel := ⟨_, rfl⟩
      rw [← hb0] at HP LB
      have HB0 := Lib.hid hb0
      clear hx hok EK kY hb0 hok1
      obtain ⟨⟨led, rs⟩, ra, rc⟩ := x
      have LEDF : Hid (led < 18446744073709551616) := Lib.hid OK.out.num
      have RSR : Hid (Rr wr ra rs) := Lib.hid OK.out.rs
      simp only at d0 d1 XL
      obtain ⟨rn, hrn⟩ : ∃ rn, rn = rs.length := ⟨_, rfl⟩
      rw [← hrn] at d1 XL
      have wrn : IntKind.u16.wrap (rn : Int) = (rn : Int) := by have := XL.out; simp [IntKind.wrap, IntKind.bits, IntKind.signed]; omega
      have RN := Lib.hid hrn; clear hrn
      obtain ⟨W5, hW5⟩ : ∃ W, W = wr.alloc (.cells #[.int .u64 (led : Nat), .slice ra rn rc] 55) := ⟨_, rfl⟩
      obtain ⟨y5, hy5⟩ : ∃ y, y = wr.heap.size := ⟨_, rfl⟩
      obtain ⟨F5, g1, g2, g3, g4⟩ := HP.out.up (.cells #[.int .u64 (led : Nat), .slice ra rn rc] 55)
      rw [← hW5] at g1 g2
      rw [← hy5] at g4
      have G2 := Lib.hid g2
      have G3 := Lib.hid g3
      have Y5 : Hid (y5 ∉ F5) := Lib.hid (fun hm => by have := g4 _ hm; omega)
      have B5 : Hid (Whole W5 y5 55 #[.int .u64 (led : Nat), .slice ra rn rc]) := Lib.hid (by rw [hW5, hy5]; exact Whole.made _ _ _)
      have P5 := Lib.hid (Put.start g1)
      have RS5 : Hid (Rr W5 ra rs) := Lib.hid (RSR.out.keep0 (by rw [hW5]; exact (Frm.refl _ _).alloc _))
      have AW5 : Hid (rs ≠ [] → ∀ q, ra = some q → q.block ∉ F5) := Lib.hid (fun hne q hq hm => by
        rcases G3.out _ hm with h1 | h1
        · exact OK1.out.away hne q hq h1
        · obtain ⟨b, off, h2, h3⟩ := OK1.out.rs.2 (List.length_pos_iff.2 hne)
          have h4 := block_lt_of_cell (h3 0 (List.length_pos_iff.2 hne)).1
          simp only at h2
          rw [h2] at hq
          cases hq
          exact absurd h4 (by simpa using h1))
      have HW5 := Lib.hid hW5; clear hW5
      have HY5 := Lib.hid hy5; clear hy5 g1 g2 g3 g4
      have u0 : ∀ z, Frm F5 W5 z → z.cell? ⟨y5, 0, none⟩ = some (.int .u64 (led : Nat)) := fun z hz => (hz.whole B5.out Y5.out).cell 0
      have u1 : ∀ z, Frm F5 W5 z → z.cell? ⟨y5, 1, none⟩ = some (.slice ra rn rc) := fun z hz => (hz.whole B5.out Y5.out).cell 1
      go_upto_region 7 with (fail)
      rw [← HW5.out, ← HY5.out]
      have v0 := u0 _ (Frm.refl _ _)
      clear d0 d1
      go_wp2_with fail
      (with_reducible refine (P5.out.u64 led LEDF.out (by have h1 := LF.out; have h2 := LB.out; simp only [List.length_append, List.length_nil]; omega)).mono ?_)
      rintro e w6 ⟨rfl, hp⟩
      have P6 := Lib.hid hp; clear hp v0 P5
      have v1 := u1 _ P6.out.frm
      go_wp2_with fail
      (with_reducible refine (P6.out.u16 rn XL.out (by have h1 := LF.out; have h2 := LB.out; simp only [List.length_append, List.length_nil, be_length]; omega)).mono ?_)
      rintro e w7 ⟨rfl, hp⟩
      have P7 := Lib.hid hp; clear hp v1 P6
      have v1 := u1 _ P7.out.frm
      obtain ⟨hd5, hhd5⟩ : ∃ hd, hd = be 8 led ++ be 2 rn := ⟨_, rfl⟩
      have HD5 : Hid (hd5.length = 10) := Lib.hid (by rw [hhd5]; simp [be_length])
      rw [List.nil_append, ← hhd5] at P7
      have EH : Hid (encHel (led, rs) = hd5 ++ rs.flatMap encRg) := Lib.hid (by unfold encHel; simp only; rw [hhd5, RN.out])
      clear hhd5
      have rn65 : rn < 65536 := XL.out
      go_wp2
      go_loopw [44] (fun s44 wi => ∃ j : Nat, j ≤ rn ∧ s44 = .int .i64 (j : Nat) ∧ Hid (Put W5 wi B p F5 (l ++ b0) (hd5 ++ (rs.take j).flatMap encRg))) (fun s44 _ => rn - (intOf s44).toNat)
      case atStart => exact ⟨0, Nat.zero_le _, rfl, Lib.hid (by simpa using P7.out)⟩
      case round =>
        obtain ⟨j, hj, rfl, HJ⟩ := hrel
        by_cases hlj : j < rn
        · have hlj' : (j : Int) < (rn : Int) := by omega
          have jr : j < rs.length := by have := RN.out; omega
          obtain ⟨b', off', rfl, hc⟩ := (RS5.out.keep HJ.out.frm (fun h0 q hq hm => AW5.out (List.length_pos_iff.1 h0) q hq hm)).2 (by omega)
          obtain ⟨e0, e1⟩ := hc j jr
          have BD := getD_bd RS5.out.1 j
          have TJ := Lib.hid (flat_take encRg rs (0, 0) jr)
          have JL : Hid (((rs.take j).flatMap encRg).length ≤ 1048576) := Lib.hid (by
            have h1 := encRgs_length (rs.take j)
            have h2 := List.length_take_le' j rs
            have h3 := XL.out
            have h4 := RN.out
            omega)
          obtain ⟨r, hr⟩ : ∃ r, r = rs.getD j (0, 0) := ⟨_, rfl⟩
          rw [← hr] at e0 e1 BD TJ
          have RD := Lib.hid BD
          clear hr hc jr BD
          obtain ⟨lo, hi⟩ := r
          simp only at e0 e1 RD
          obtain ⟨W8, hW8⟩ : ∃ W, W = wr.alloc (.cells #[.int .u64 (lo : Nat), .int .u64 (hi : Nat)] 71) := ⟨_, rfl⟩
          obtain ⟨y8, hy8⟩ : ∃ y, y = wr.heap.size := ⟨_, rfl⟩
          obtain ⟨F8, g1, g2, g3, g4⟩ := HJ.out.up (.cells #[.int .u64 (lo : Nat), .int .u64 (hi : Nat)] 71)
          rw [← hW8] at g1 g2
          rw [← hy8] at g4
          have G82 := Lib.hid g2
          have G83 := Lib.hid g3
          have Y8 : Hid (y8 ∉ F8) := Lib.hid (fun hm => by have := g4 _ hm; omega)
          have B8 : Hid (Whole W8 y8 71 #[.int .u64 (lo : Nat), .int .u64 (hi : Nat)]) := Lib.hid (by rw [hW8, hy8]; exact Whole.made _ _ _)
          have P8 := Lib.hid (Put.start g1)
          have HW8 := Lib.hid hW8; clear hW8
          have HY8 := Lib.hid hy8; clear hy8 g1 g2 g3 g4
          have t0 : ∀ z, Frm F8 W8 z → z.cell? ⟨y8, 0, none⟩ = some (.int .u64 (lo : Nat)) := fun z hz => (hz.whole B8.out Y8.out).cell 0
          have t1 : ∀ z, Frm F8 W8 z → z.cell? ⟨y8, 1, none⟩ = some (.int .u64 (hi : Nat)) := fun z hz => (hz.whole B8.out Y8.out).cell 1
          go_upto_region 12 with (fail)
          rw [← HW8.out, ← HY8.out]
          have v0 := t0 _ (Frm.refl _ _)
          clear e0 e1
          go_wp2_with fail
          (with_reducible refine (P8.out.u64 lo RD.out.1 (by have h1 := LF.out; have h2 := LB.out; have h3 := JL.out; have h4 := HD5.out; simp only [List.length_append, List.length_nil]; omega)).mono ?_)
          rintro e w9 ⟨rfl, hp⟩
          have P9 := Lib.hid hp; clear hp v0 P8
          have v1 := t1 _ P9.out.frm
          go_wp2_with fail
          (with_reducible refine (P9.out.u64 hi RD.out.2 (by have h1 := LF.out; have h2 := LB.out; have h3 := JL.out; have h4 := HD5.out; simp only [List.length_append, List.length_nil, be_length]; omega)).mono ?_)
          rintro e w10 ⟨rfl, hp⟩
          have NX : Hid (Put W5 w10 B p F5 (l ++ b0) (hd5 ++ (rs.take (j + 1)).flatMap encRg)) := Lib.hid (by
            rw [TJ.out, ← List.append_assoc]
            refine Put.then G82.out G83.out ?_
            rw [show encRg (lo, hi) = be 8 lo ++ be 8 hi from rfl]
            simpa using hp)
          clear hp v1 P9 t0 t1
          go_wp2
          go_roundw
          case rel => exact ⟨j + 1, by omega, by go_num, NX⟩
          case measure => simp [intOf]; omega
        · obtain rfl : j = rn := by omega
          have NX : Hid (Put w1 wr B p F l (hd ++ ((hels Y).take (k + 1)).flatMap encHel)) := Lib.hid (by
            have h1 := HJ.out
            rw [List.take_of_length_le (by rw [← RN.out]; exact Nat.le_refl _), ← EH.out] at h1
            have h2 := Put.then G2.out G3.out h1
            rw [TK.out, ← List.append_assoc, ← HB0.out]
            exact h2)
          clear u0 u1 v1
          go_wp2
          go_roundw
          case rel => exact ⟨k + 1, by omega, by go_num, NX⟩
          case measure => simp [intOf]; omega
    · obtain rfl : k = n := by omega
      have HE : Hid (Q (.returned (.tuple #[])) wr) := Lib.hid (FIN.out wr (by
        have h1 := HP.out
        rw [List.take_of_length_le (by rw [hels_length, ← HN.out]; exact Nat.le_refl _)] at h1
        exact h1))
      clear r0 r1 r2 x2
      go_wp2
      go_end0
      exact HE.out
end Go.Proofs.Ytghadpihmhaepaa
