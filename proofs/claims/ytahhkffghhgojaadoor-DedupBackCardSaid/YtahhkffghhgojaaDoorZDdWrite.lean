/- Contract of the table's Write. -/
import Derived.Test.YtahhkffghhgojaaDoorZDdDel
import Derived.Test.YtahhkffghhgojaaDoorZPkWords
import Derived.Test.YtahhkffghhgojaaDoorZTkEnc
namespace Go.Proofs.YtahhkffghhgojaaDoor
open Go.RowKit
set_option maxRecDepth 100000

theorem dPut_start {w : World} {B p : Nat} {F l : List Nat} (h : Wr w B p F l) : Put w w B p F l [] := ⟨F, by rw [List.append_nil]; exact h, Frm.refl _ _, fun x hx => .inl hx⟩
theorem dPut_u64 {w w1 : World} {B p : Nat} {F l b : List Nat} (h : Put w w1 B p F l b) (n : Nat) (hn : n < 18446744073709551616) (hfit : l.length + b.length + 8 ≤ 140737488355328) :
    Calls Tryd.prog 46 #[.pointer (some ⟨p, 0, none⟩), .int .u64 n] w1 (fun e w2 => e = .returned (.tuple #[]) ∧ Put w w2 B p F l (b ++ be 8 n)) := by
  obtain ⟨F', h1, h2, h3⟩ := h
  exact (u64_any n h1 hn (by rw [List.length_append]; omega)).mono fun e w2 ⟨he, hp⟩ => ⟨he, Put.then h2 h3 hp⟩
theorem dPut_u8 {w w1 : World} {B p : Nat} {F l b : List Nat} (h : Put w w1 B p F l b) (n : Nat) (hn : n < 256) (hfit : l.length + b.length + 1 ≤ 140737488355328) :
    Calls Tryd.prog 44 #[.pointer (some ⟨p, 0, none⟩), .int .u8 n] w1 (fun e w2 => e = .returned (.tuple #[]) ∧ Put w w2 B p F l (b ++ be 1 n)) := by
  obtain ⟨F', h1, h2, h3⟩ := h
  exact (u8_any n h1 hn (by rw [List.length_append]; omega)).mono fun e w2 ⟨he, hp⟩ => ⟨he, Put.then h2 h3 hp⟩
theorem dPut_text {w w1 : World} {B p : Nat} {F l b : List Nat} (h : Put w w1 B p F l b) (s : ByteArray) (hn : s.size < 4294967296) (hfit : l.length + b.length + 4 + s.size ≤ 140737488355328) :
    Calls Tryd.prog 45 #[.pointer (some ⟨p, 0, none⟩), .string s] w1 (fun e w2 => e = .returned (.tuple #[]) ∧ Put w w2 B p F l (b ++ (be 4 s.size ++ strL s))) := by
  obtain ⟨F', h1, h2, h3⟩ := h
  exact (text_any s h1 hn (by rw [List.length_append]; omega)).mono fun e w2 ⟨he, hp⟩ => ⟨he, Put.then h2 h3 hp⟩
theorem dPut_frm {w w1 : World} {B p : Nat} {F l b : List Nat} (h : Put w w1 B p F l b) : Frm F w w1 := h.choose_spec.2.1
theorem dflat_take (Z : List Ln) {k : Nat} (h : k < Z.length) : (Z.take (k + 1)).flatMap encL = (Z.take k).flatMap encL ++ encL (Z.getD k default) := by
  rw [List.take_succ_eq_append_getElem h, List.flatMap_append, ln_get h]
  simp
theorem dencL_length (x : Ln) : (encL x).length = x.nm.size + 28 := by simp [encL, be_length, strL_length]; omega
theorem dencLs_few (Y : List Ln) (h : ∀ x ∈ Y, x.nm.size ≤ 64) : (Y.flatMap encL).length ≤ Y.length * 92 := by
  induction Y with
  | nil => simp
  | cons x Y ih =>
    rw [List.flatMap_cons, List.length_append, dencL_length, List.length_cons]
    have h1 := ih (fun y hy => h y (by simp [hy]))
    have h2 := h x (by simp)
    omega
/-- A writer's blocks are told from a block that is new. -/
theorem dPut_own {w w1 : World} {B p : Nat} {F l b : List Nat} (h : Put w w1 B p F l b) (o : Obj) : ∃ F1, Wr (w1.alloc o) B p F1 (l ++ b) ∧ Frm F w (w1.alloc o) ∧ (∀ x ∈ F1, x ∈ F ∨ w.heap.size ≤ x) ∧ ∀ x ∈ F1, x < w1.heap.size := by
  obtain ⟨F', h1, h2, h3⟩ := h
  exact ⟨F', h1.keep ((Frm.refl [] w1).alloc o) (by simp), h2.alloc o, h3, fun x hx => (h1.lt x hx).2⟩

set_option maxHeartbeats 8000000 in
theorem dwrite_any {w : World} {B p g : Nat} {F l : List Nat} {m : Option Nat} {X : List Ln} (hW : Wr w B p F l) (h : Dd w g m X) (ok : TbOk X) (hfit : l.length ≤ 100000) :
    Calls Tryd.prog 24 #[.pointer (some ⟨g, 0, none⟩), .pointer (some ⟨p, 0, none⟩)] w (PutEnd w B p F l (encY (keepD (allX X)))) := by
  have hal := dall_any h (by have := ok.few; omega) (fun x hx => by have := (ok.size x hx).2; omega)
  have HAL := Lib.hid hal
  obtain ⟨Z, hZ⟩ : ∃ Z, Z = allX X := ⟨_, rfl⟩
  have hZl : Z.length ≤ 16 := by rw [hZ, (allX_perm X).length_eq]; exact ok.few
  have hZn : ∀ x ∈ Z, x.nm.size ≤ 64 := fun x hx => (ok.size x ((allX_perm X).mem_iff.1 (hZ ▸ hx))).2
  rw [← hZ] at HAL ⊢
  have HZL := Lib.hid hZl
  have HZN := Lib.hid hZn
  have HW := Lib.hid hW
  have LF := Lib.hid hfit
  obtain ⟨Q, hQ⟩ : ∃ Q, Q = PutEnd w B p F l (encY (keepD Z)) := ⟨_, rfl⟩
  rw [← hQ]
  have HQ := Lib.hid hQ
  clear hal h ok hZ hZl hZn hW hfit hQ
  go_enter Tryd.func24, Tryd.ntmps24
  go_wp2_with fail
  (with_reducible refine HAL.out.mono ?_)
  rintro e w1 ⟨a, c, rfl, ho, hf1⟩
  have hde := deleteD_any a Z.length c w.heap.size [] Z w1 ho rfl (by have := HZL.out; omega)
  have HDE := Lib.hid hde
  have HF1 := Lib.hid hf1
  have HO := Lib.hid ho
  clear hde ho hf1
  go_wp2_with fail
  (with_reducible refine HDE.out.mono ?_)
  rintro e w2 ⟨n, rfl, hn, ho2, hf2⟩
  have hf02 : Frm [] w w2 := HF1.out.trans hf2 (by simp) (fun x hx => .inr (HO.out.blk_lt x hx).1)
  obtain ⟨Y, hY⟩ : ∃ Y, Y = keepD Z := ⟨_, rfl⟩
  have hYn : ∀ x ∈ Y, x.nm.size ≤ 64 := fun x hx => HZN.out x (by rw [hY] at hx; exact (List.mem_filter.1 hx).1)
  have hYl : Y.length ≤ 16 := by rw [hY]; exact Nat.le_trans (List.length_filter_le _ _) HZL.out
  rw [← hY] at hn ho2 HQ
  have hl2 : LnL w2 F a Y := by
    have h1 := ho2.sl
    refine ⟨h1.vals, h1.fits, fun hne q hq hm => ?_⟩
    have h2 := (ho2.blk_lt q.block (by rw [hq]; simp)).1
    have h3 := (HW.out.lt _ hm).2
    omega
  have W2 := Lib.hid (dPut_start (HW.out.keep hf02 (by simp)))
  have FIN : Hid (∀ w', Put w2 w' B p F l (be 1 n ++ Y.flatMap encL) → Q (.returned (.tuple #[])) w') := Lib.hid (fun w' hp => by rw [HQ.out]; unfold encY; rw [← hn]; exact ⟨rfl, hp.early hf02⟩)
  have EL : Hid (∀ k, ((Y.take k).flatMap encL).length ≤ 1472) := Lib.hid (fun k => by
    have h1 := dencLs_few (Y.take k) (fun x hx => hYn x (List.mem_of_mem_take hx))
    have h2 : (Y.take k).length ≤ 16 := Nat.le_trans (List.length_take_le' k _) hYl
    omega)
  have HN := Lib.hid hn
  have HL2 := Lib.hid hl2
  have HYN := Lib.hid hYn
  have hn16 : n ≤ 16 := by omega
  have wn : IntKind.u8.wrap (n : Int) = (n : Int) := by simp [IntKind.wrap, IntKind.bits, IntKind.signed]; omega
  clear hn hl2 hYn hYl hY ho2 hf2 hf02 HDE HO HF1 HAL HQ
  go_wp2_with fail
  (with_reducible refine (dPut_u8 W2.out n (by omega) (by have := LF.out; simp; omega)).mono ?_)
  rintro e w3 ⟨rfl, hp⟩
  have P3 := Lib.hid hp
  clear hp W2
  rw [List.nil_append] at P3
  go_wp2
  go_loopw [19] (fun s19 wr => ∃ k : Nat, k ≤ n ∧ s19 = .int .i64 (k : Nat) ∧ Hid (Put w2 wr B p F l (be 1 n ++ (Y.take k).flatMap encL))) (fun s19 _ => n - (intOf s19).toNat)
  case atStart => exact ⟨0, Nat.zero_le _, rfl, Lib.hid (by simpa using P3.out)⟩
  case round =>
    obtain ⟨k, hk, rfl, HP⟩ := hrel
    by_cases hlt : k < n
    · have hlt' : (k : Int) < (n : Int) := by omega
      have kY : k < Y.length := by have := HN.out; omega
      obtain ⟨b, off, rfl, d0, d1, d2, d3, d4, hft⟩ := (HL2.out.keep (dPut_frm HP.out) (F' := []) (fun x hx => .inl hx) (by simp)).at (i := k) kY
      have TK := dflat_take Y (k := k) kY
      have hxs : (Y.getD k default).nm.size ≤ 64 := HYN.out _ (by simp [kY])
      obtain ⟨x, hx⟩ : ∃ x, x = Y.getD k default := ⟨_, rfl⟩
      rw [← hx] at d0 d1 d2 d3 d4 hft TK hxs
      have HTK := Lib.hid TK
      obtain ⟨xn, xt, xd, xl, xe⟩ := x
      simp only at d0 d1 d2 d3 d4 hxs
      have HFT : Hid (xt < 18446744073709551616 ∧ xd < 18446744073709551616 ∧ xl < 18446744073709551616 ∧ xe < 18446744073709551616) := Lib.hid hft
      have HXS := Lib.hid hxs
      have LB : Hid ((be 1 n ++ (Y.take k).flatMap encL).length ≤ 1500) := Lib.hid (by have h2 := EL.out k; rw [List.length_append, be_length]; omega)
      obtain ⟨b0, hb0⟩ : ∃ b0, b0 = be 1 n ++ (Y.take k).flatMap encL := ⟨_, rfl⟩
      rw [← hb0] at HP LB
      have HB0 := Lib.hid hb0
      clear hx hft hxs TK hb0 kY
      obtain ⟨W5, hW5⟩ : ∃ W, W = wr.alloc (.cells #[.string xn, .int .u64 (xt : Nat), .int .u64 (xd : Nat), .int .u64 (xl : Nat), .int .u64 (xe : Nat)] 56) := ⟨_, rfl⟩
      obtain ⟨y5, hy5⟩ : ∃ y, y = wr.heap.size := ⟨_, rfl⟩
      obtain ⟨F5, g1, g2, g3, g4⟩ := dPut_own HP.out (.cells #[.string xn, .int .u64 (xt : Nat), .int .u64 (xd : Nat), .int .u64 (xl : Nat), .int .u64 (xe : Nat)] 56)
      rw [← hW5] at g1 g2
      rw [← hy5] at g4
      have G2 := Lib.hid g2
      have G3 := Lib.hid g3
      have Y5 : Hid (y5 ∉ F5) := Lib.hid (fun hm => by have := g4 _ hm; omega)
      have B5 : Hid (Whole W5 y5 56 #[.string xn, .int .u64 (xt : Nat), .int .u64 (xd : Nat), .int .u64 (xl : Nat), .int .u64 (xe : Nat)]) := Lib.hid (by rw [hW5, hy5]; exact Whole.made _ _ _)
      have P5 := Lib.hid (dPut_start g1)
      have HW5 := Lib.hid hW5; clear hW5
      have HY5 := Lib.hid hy5; clear hy5 g1 g2 g3 g4
      have u0 : ∀ z, Frm F5 W5 z → z.cell? ⟨y5, 0, none⟩ = some (.string xn) := fun z hz => (hz.whole B5.out Y5.out).cell 0
      have u2 : ∀ z, Frm F5 W5 z → z.cell? ⟨y5, 2, none⟩ = some (.int .u64 (xd : Nat)) := fun z hz => (hz.whole B5.out Y5.out).cell 2
      have u3 : ∀ z, Frm F5 W5 z → z.cell? ⟨y5, 3, none⟩ = some (.int .u64 (xl : Nat)) := fun z hz => (hz.whole B5.out Y5.out).cell 3
      have u4 : ∀ z, Frm F5 W5 z → z.cell? ⟨y5, 4, none⟩ = some (.int .u64 (xe : Nat)) := fun z hz => (hz.whole B5.out Y5.out).cell 4
      go_upto_region 6 with (fail)
      rw [← HW5.out, ← HY5.out]
      have v0 := u0 _ (Frm.refl _ _)
      clear d0 d1 d2 d3 d4
      go_wp2_with fail
      (with_reducible refine (dPut_text P5.out xn (by have := HXS.out; omega) (by have h1 := LF.out; have h2 := LB.out; have h3 := HXS.out; simp only [List.length_append, List.length_nil]; omega)).mono ?_)
      rintro e w6 ⟨rfl, hp⟩
      have P6 := Lib.hid hp; clear hp v0 P5
      have v1 := u2 _ (dPut_frm P6.out)
      go_wp2_with fail
      (with_reducible refine (dPut_u64 P6.out xd HFT.out.2.1 (by have h1 := LF.out; have h2 := LB.out; have h3 := HXS.out; simp only [List.length_append, List.length_nil, be_length, strL_length]; omega)).mono ?_)
      rintro e w7 ⟨rfl, hp⟩
      have P7 := Lib.hid hp; clear hp v1 P6
      have v1 := u3 _ (dPut_frm P7.out)
      go_wp2_with fail
      (with_reducible refine (dPut_u64 P7.out xl HFT.out.2.2.1 (by have h1 := LF.out; have h2 := LB.out; have h3 := HXS.out; simp only [List.length_append, List.length_nil, be_length, strL_length]; omega)).mono ?_)
      rintro e w8 ⟨rfl, hp⟩
      have P8 := Lib.hid hp; clear hp v1 P7
      have v1 := u4 _ (dPut_frm P8.out)
      go_wp2_with fail
      (with_reducible refine (dPut_u64 P8.out xe HFT.out.2.2.2 (by have h1 := LF.out; have h2 := LB.out; have h3 := HXS.out; simp only [List.length_append, List.length_nil, be_length, strL_length]; omega)).mono ?_)
      rintro e w9 ⟨rfl, hp⟩
      have PN : Hid (Put w2 w9 B p F l (be 1 n ++ (Y.take (k + 1)).flatMap encL)) := Lib.hid (by
        have h1 := Put.then G2.out G3.out hp
        rw [HTK.out, ← List.append_assoc, ← HB0.out]
        simpa [encL, List.append_assoc] using h1)
      clear hp v1 P8 u0 u2 u3 u4
      go_wp2
      go_roundw
      case rel => exact ⟨k + 1, by omega, by go_num, PN⟩
      case measure => simp [intOf]; omega
    · obtain rfl : k = n := by omega
      have hfin := FIN.out wr (by have h := HP.out; rwa [List.take_of_length_le (by have := HN.out; omega)] at h)
      have HFIN := Lib.hid hfin
      clear hfin
      go_wp2
      go_end0
      exact HFIN.out
end Go.Proofs.YtahhkffghhgojaaDoor
