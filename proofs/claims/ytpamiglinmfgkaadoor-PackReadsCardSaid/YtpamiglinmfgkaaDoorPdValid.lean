/- (For PackReads' own seat.) unicode/utf8.Valid over bytes: what it answers hangs on the bytes alone. Its steps, one by one, as a function of what is left; the walk against them. -/
import Derived.Test.YtpamiglinmfgkaaDoorPdWord
import Derived.Deep.LoopGhost
import Derived.Deep.QuietTactic
import Derived.BigQuiet
import Derived.Deep.DeepCutAuto
namespace Go.Proofs.YtpamiglinmfgkaaDoor
open Go.RowKit

/-- One step of utf8.Valid, of what is left: whether it is in the loop of 32 bytes a round. -/
def vT (u : List Nat) : (Bool × List Nat) ⊕ Bool := if 32 < u.length ∧ ((W8 u ||| W8 (u.drop 8)) ||| (W8 (u.drop 16) ||| W8 (u.drop 24))) &&& 9259542123273814144 = 0 then .inl (true, u.drop 32) else .inl (false, u)
def vF (l : List Nat) : (Bool × List Nat) ⊕ Bool :=
    if l.length = 0 then .inr true else
    if l.getD 0 0 < 128 then
      if 8 < (l.drop 1).length ∧ W8 (l.drop 1) &&& 9259542123273814144 = 0 then
        if 16 < ((l.drop 1).drop 8).length ∧ (W8 ((l.drop 1).drop 8) ||| W8 (((l.drop 1).drop 8).drop 8)) &&& 9259542123273814144 = 0 then .inl (true, ((l.drop 1).drop 8).drop 16)
        else .inl (false, (l.drop 1).drop 8)
      else .inl (false, l.drop 1)
    else if Lib.firstT (l.getD 0 0) % 8 = 2 then
      if l.length < 2 ∨ l.getD 1 0 < Lib.accLo (Lib.firstT (l.getD 0 0) / 16) ∨ Lib.accHi (Lib.firstT (l.getD 0 0) / 16) < l.getD 1 0 then .inr false else .inl (false, l.drop 2)
    else if Lib.firstT (l.getD 0 0) % 8 = 3 then
      if l.length < 3 ∨ l.getD 1 0 < Lib.accLo (Lib.firstT (l.getD 0 0) / 16) ∨ Lib.accHi (Lib.firstT (l.getD 0 0) / 16) < l.getD 1 0 ∨ l.getD 2 0 < 128 ∨ 191 < l.getD 2 0 then .inr false else .inl (false, l.drop 3)
    else if Lib.firstT (l.getD 0 0) % 8 = 4 then
      if l.length < 4 ∨ l.getD 1 0 < Lib.accLo (Lib.firstT (l.getD 0 0) / 16) ∨ Lib.accHi (Lib.firstT (l.getD 0 0) / 16) < l.getD 1 0 ∨ l.getD 2 0 < 128 ∨ 191 < l.getD 2 0 ∨ l.getD 3 0 < 128 ∨ 191 < l.getD 3 0 then .inr false else .inl (false, l.drop 4)
    else .inr false
def vstep (s : Bool × List Nat) : (Bool × List Nat) ⊕ Bool := match s with
  | (true, u) => vT u
  | (false, l) => vF l
/-- What the steps come to. -/
inductive Val : Bool × List Nat → Bool → Prop where
  | done {s : Bool × List Nat} {b : Bool} : vstep s = .inr b → Val s b
  | next {s s' : Bool × List Nat} {b : Bool} : vstep s = .inl s' → Val s' b → Val s b
theorem Val.one {s : Bool × List Nat} {b b' : Bool} (h : Val s b) (h' : Val s b') : b = b' := by
  induction h with
  | done e => cases h' with
    | done e' => rw [e] at e'; injection e'
    | next e' _ => rw [e] at e'; cases e'
  | next e _ ih => cases h' with
    | done e' => rw [e] at e'; cases e'
    | next e' h2 => rw [e] at e'; injection e' with e'; subst e'; exact ih h2

/-- A piece from place k on. -/
theorem cut_pack {wr : World} {a : Option Addr} {n cap : Nat} {c : List Nat} (hb : Bytes wr a c) (hn : n = c.length) (hc : n ≤ cap) (k : Nat) (i : Int) (hi : i = (k : Nat)) (hk : k ≤ n) :
    ∃ a1 n1 k1, (∀ W, (Instr.slice 22 (.slice a n cap) (some (.int .i64 i)) none none).run Tryd.prog W = .ok (.slice a1 n1 k1) W) ∧ Bytes wr a1 (c.drop k) ∧ n1 = (c.drop k).length ∧ n1 ≤ k1 ∧ n1 + k = n :=
  ⟨_, _, _, fun W => run_cut_l Tryd.underlying22 size_byte W a n cap k i hi hk, cut_bytes hb (by omega) k, by rw [List.length_drop, hn], by omega, by omega⟩
theorem run_cut_same (W : World) (a : Option Addr) (n cap : Nat) (hc : n ≤ cap) :
    (Instr.slice 22 (.slice a n cap) none (some (.int .i64 (n : Nat))) (some (.int .i64 (n : Nat)))).run Tryd.prog W = .ok (.slice (cutAt a n 0) n n) W := by
  have ht' : Tryd.prog.underlying 22 = some (.slice (Tryd.prog.elem 22)) := by simp [Program.elem, Tryd.underlying22]
  have he : Tryd.prog.elem 22 = 5 := by simp [Program.elem, Tryd.underlying22]
  rw [run_slice_hm W _ _ _ _ ht' .i64 .i64 _ _ (by omega) (by omega) (by omega), he, size_byte]
  simp [Result.andThen, sliced, cutAt]
theorem Bytes.drewN {w : World} {a : Option Addr} {l : List Nat} (h : Bytes w a l) (q : Nat) : Bytes (w.drewN q) a l := ((Frm.refl [] w).drewN q).bytes h (by simp)
theorem frm_at {w w' : World} {S : List Nat} {a : Addr} {v : Value} (hf : Frm S w w') (h : w.cell? a = some v) (hn : a.block ∉ S) : w'.cell? a = some v := (hf.cell (block_lt_of_cell h) hn).trans h
theorem frm_tr {a b c : World} (h : Frm [] a b) (k : Frm [] b c) : Frm [] a c := h.trans k (by simp) (by simp)

set_option maxRecDepth 100000 in
theorem and7 : ∀ X : Fin 256, bits .and .u8 ((X.val : Nat) : Int) 7 = ((X.val % 8 : Nat) : Int) := by decide
/-- At the loops' heads. -/
def VRel (w : World) (l : List Nat) (m : Bool) (gk : Nat) (s0 : Value) (wx : World) : Prop :=
  ∃ a n cap c, s0 = .slice a n cap ∧ Bytes wx a c ∧ n = c.length ∧ n ≤ cap ∧ n ≤ 140737488355328 ∧ (∀ b, Val (m, c) b → Val (false, l) b) ∧ n < gk ∧ Frm [] w wx
def VRes (w : World) (l : List Nat) (e : Ending) (w' : World) : Prop := ∃ b, e = .returned (.bool b) ∧ Val (false, l) b ∧ Frm [] w w'

set_option maxHeartbeats 16000000 in
set_option maxRecDepth 1000000 in
theorem valid_any {w : World} {a : Option Addr} {l : List Nat} {n cap : Nat} (h : Bytes w a l) (hn : n = l.length) (hc : n ≤ cap) (hfit : n ≤ 140737488355328) (hT : Lib.Utf8Tabs 0 1 w) :
    Calls Tryd.prog 34 #[.slice a n cap] w (VRes w l) := by
  have cS := fun W => run_cut_same W a n cap hc
  have B0 : Hid (Bytes w (cutAt a n 0) l) := by have := cut_bytes h (cap := n) (by omega) 0; rw [List.drop_zero] at this; exact this
  have HN := Lib.hid hn
  have HT := Lib.hid hT
  clear h hn hT
  go_enter Tryd.func34, Tryd.ntmps34
  go_wp2
  clear cS
  go_loopg [0] (n + 1) (fun gk s0 wx => VRel w l false gk s0 wx)
  case atStart => exact ⟨cutAt a n 0, n, n, l, rfl, B0.out, HN.out, Nat.le_refl _, hfit, fun b hb => hb, Nat.lt_succ_self _, Frm.refl _ _⟩
  case round =>
    clear B0 HN hc hfit
    obtain ⟨a, n, cap, c, rfl, hb, hn, hc, hfit, hJ, hgk, hf⟩ := hrel
    have F := Lib.hid hf
    have J := Lib.hid hJ
    have B := Lib.hid hb
    have HN := Lib.hid hn
    have HT' : Hid (Lib.Utf8Tabs 0 1 wr) := ⟨fun x hx => frm_at hf (HT.out.1 x hx) (by simp), fun i hi => ⟨frm_at hf (HT.out.2 i hi).1 (by simp), frm_at hf (HT.out.2 i hi).2 (by simp)⟩⟩
    clear hJ hb hn hf HT
    by_cases h0 : 0 < n
    · obtain ⟨g', rfl⟩ : ∃ g', gk = g' + 1 := ⟨gk - 1, by omega⟩
      have h0z : (0 : Int) < (n : Int) := by omega
      obtain ⟨b, off, rfl, hcl⟩ : ∃ b off, a = some ⟨b, off, none⟩ ∧ ∀ i, i < c.length → wr.cell? ⟨b, off + i, none⟩ = some (.int .u8 (c.getD i 0 : Nat)) := by
        rcases B.out.2.2 with h1 | h1
        · have := HN.out; rw [h1] at this; simp at this; omega
        · exact h1
      have CL := Lib.hid hcl
      have k0 := hcl 0 (by have := HN.out; omega)
      rw [Nat.add_zero] at k0
      have e0 := getD_lt B.out.1 0
      obtain ⟨x0, hx0⟩ : ∃ x, x = c.getD 0 0 := ⟨_, rfl⟩
      rw [← hx0] at k0 e0
      have X0 := Lib.hid hx0
      clear hcl hx0
      by_cases hasc : x0 < 128
      · as_aux_lemma =>
          have hascz : (x0 : Int) < 128 := by omega
          obtain ⟨a1, n1, p1, cut1, hb1, hn1, hp1, hs1⟩ := cut_pack B.out HN.out hc 1 1 rfl (by omega)
          have B1 := Lib.hid hb1
          have N1 := Lib.hid hn1
          have S0 : Hid (¬ c.length = 0) := by rw [← HN.out]; show ¬ n = 0; omega
          have S1 : Hid (c.getD 0 0 < 128) := by rw [← X0.out]; exact hasc
          clear hb1 hn1 hasc
          by_cases c8 : 8 < n1
          · have c8z : (8 : Int) < (n1 : Int) := by omega
            have lA1 : W8 (c.drop 1) < 18446744073709551616 := W8_lt B1.out.1
            have cW1 := Lib.hid (word_any (n := n1) (cap := p1) B1.out N1.out (by omega))
            obtain ⟨A1, hA1⟩ : ∃ A1, A1 = W8 (c.drop 1) := ⟨_, rfl⟩
            rw [← hA1] at cW1 lA1
            have hand1 : bits .and .u64 (A1 : Int) 9259542123273814144 = ((A1 &&& 9259542123273814144 : Nat) : Int) := u64_and_nat A1 9259542123273814144 lA1 (by omega)
            obtain ⟨Z1, hZ1⟩ : ∃ Z1, Z1 = A1 &&& 9259542123273814144 := ⟨_, rfl⟩
            rw [← hZ1] at hand1
            have S2 : Hid (Z1 = W8 (c.drop 1) &&& 9259542123273814144) := by show Z1 = _; rw [hZ1, hA1]
            clear hZ1 hA1 lA1
            by_cases hz1 : Z1 = 0
            · have hz1b : ((Z1 : Int) == 0) = true := by simp [hz1]
              have S3 : Hid (8 < (c.drop 1).length ∧ W8 (c.drop 1) &&& 9259542123273814144 = 0) := ⟨by rw [← N1.out]; exact c8, by rw [← S2.out]; exact hz1⟩
              obtain ⟨a2, n2, p2, cut2, hb2, hn2, hp2, hs2⟩ := cut_pack B1.out N1.out hp1 8 8 rfl (by omega)
              have B2 := Lib.hid hb2
              have N2 := Lib.hid hn2
              clear hb2 hn2 hz1 S2
              go_wp2_with fail
              refine cW1.out.mono ?_
              rintro e W1 ⟨rfl, q1, rfl⟩
              obtain ⟨wq, hwq⟩ : ∃ wq, wq = wr.drewN q1 := ⟨_, rfl⟩
              have F1 : Hid (Frm [] wr wq) := by rw [hwq]; exact (Frm.refl _ _).drewN _
              rw [← hwq]
              clear hwq
              go_wp2
              clear cW1 hand1 hz1b cut1 k0 e0 hascz c8z B HT' CL
              have B2' : Hid (Bytes wq a2 ((c.drop 1).drop 8)) := F1.out.bytes B2.out (by simp)
              by_cases c16 : 16 < n2
              · have c16z : (16 : Int) < (n2 : Int) := by omega
                obtain ⟨a4, n4, p4, cut4, hb4, hn4, hp4, hs4⟩ := cut_pack B2'.out N2.out hp2 8 8 rfl (by omega)
                obtain ⟨a3, n3, p3, cut3, hb3, hn3, hp3, hs3⟩ := cut_pack B2'.out N2.out hp2 16 16 rfl (by omega)
                have B4 := Lib.hid hb4
                have N4 := Lib.hid hn4
                have B3 := Lib.hid hb3
                have N3 := Lib.hid hn3
                have lA2 : W8 ((c.drop 1).drop 8) < 18446744073709551616 := W8_lt B2'.out.1
                have lA3 : W8 (((c.drop 1).drop 8).drop 8) < 18446744073709551616 := W8_lt B4.out.1
                have cW2 := Lib.hid (fun (q : Nat) => word_any (n := n2) (cap := p2) (B2'.out.drewN q) N2.out (by omega))
                have cW3 := Lib.hid (fun (q : Nat) => word_any (n := n4) (cap := p4) (B4.out.drewN q) N4.out (by omega))
                obtain ⟨A2, hA2⟩ : ∃ A2, A2 = W8 ((c.drop 1).drop 8) := ⟨_, rfl⟩
                obtain ⟨A3, hA3⟩ : ∃ A3, A3 = W8 (((c.drop 1).drop 8).drop 8) := ⟨_, rfl⟩
                rw [← hA2] at cW2 lA2
                rw [← hA3] at cW3 lA3
                have hor2 : bits .or .u64 (A2 : Int) (A3 : Int) = ((A2 ||| A3 : Nat) : Int) := u64_or_nat A2 A3 lA2 lA3
                have lor2 : A2 ||| A3 < 18446744073709551616 := Nat.or_lt_two_pow (n := 64) lA2 lA3
                have hand2 : bits .and .u64 ((A2 ||| A3 : Nat) : Int) 9259542123273814144 = (((A2 ||| A3) &&& 9259542123273814144 : Nat) : Int) := u64_and_nat _ 9259542123273814144 lor2 (by omega)
                obtain ⟨O2, hO2⟩ : ∃ O2, O2 = A2 ||| A3 := ⟨_, rfl⟩
                rw [← hO2] at hor2 hand2
                obtain ⟨Z2, hZ2⟩ : ∃ Z2, Z2 = O2 &&& 9259542123273814144 := ⟨_, rfl⟩
                rw [← hZ2] at hand2
                have S4 : Hid (Z2 = (W8 ((c.drop 1).drop 8) ||| W8 (((c.drop 1).drop 8).drop 8)) &&& 9259542123273814144) := by show Z2 = _; rw [hZ2, hO2, hA2, hA3]
                clear hb4 hn4 hb3 hn3 hA2 hA3 hO2 hZ2 lor2 lA2 lA3
                by_cases hz2 : Z2 = 0
                · have hz2b : ((Z2 : Int) == 0) = true := by simp [hz2]
                  have S5 : Hid (16 < ((c.drop 1).drop 8).length ∧ (W8 ((c.drop 1).drop 8) ||| W8 (((c.drop 1).drop 8).drop 8)) &&& 9259542123273814144 = 0) := ⟨by rw [← N2.out]; exact c16, by rw [← S4.out]; exact hz2⟩
                  have ST : Hid (vstep (false, c) = .inl (true, ((c.drop 1).drop 8).drop 16)) := by show vF c = _; unfold vF; rw [if_neg S0.out, if_pos S1.out, if_pos S3.out, if_pos S5.out]
                  clear S0 S1 S3 S4 S5 hz2
                  go_wp2
                  go_quiet (first | with_reducible exact Calls.quiet_of (cW2.out _) | with_reducible exact Calls.quiet_of (cW3.out _))
                  obtain ⟨wt, hwt⟩ : ∃ wt, wt = wq.drewN nq := ⟨_, rfl⟩
                  have F3 : Hid (Frm [] w wt) := by rw [hwt]; exact frm_tr (frm_tr F.out F1.out) ((Frm.refl _ _).drewN _)
                  have B3' : Hid (Bytes wt a3 (((c.drop 1).drop 8).drop 16)) := by rw [hwt]; exact B3.out.drewN _
                  rw [← hwt]
                  clear hwt cW2 cW3 hor2 hand2 hz2b c16z cut2 cut4 B2 B2' B4 N4 B3 B1 F1 F
                  go_wp2
                  clear cut3
                  go_loopg [0] (n3 + 1) (fun g2 s0 wx => VRel w l true g2 s0 wx ∧ g2 ≤ n3 + 1)
                  case atStart => exact ⟨⟨_, _, _, _, rfl, B3'.out, N3.out, hp3, by omega, fun b hb => J.out b (.next ST.out hb), Nat.lt_succ_self _, F3.out⟩, Nat.le_refl _⟩
                  case round =>
                    clear B3' F3
                    obtain ⟨⟨au, nu, pu, u, rfl, hbu, hnu, hcu, hfu, hJu, hgu, hffu⟩, hg3⟩ := hrel
                    have JU := Lib.hid hJu
                    have FU := Lib.hid hffu
                    have BU := Lib.hid hbu
                    have NU := Lib.hid hnu
                    clear hbu hnu hJu hffu
                    by_cases c32 : 32 < nu
                    · obtain ⟨g3, rfl⟩ : ∃ g3, gk = g3 + 1 := ⟨gk - 1, by omega⟩
                      have c32z : (32 : Int) < (nu : Int) := by omega
                      obtain ⟨ab, nb, pb, cutb, hbb, hnb, hpb, hsb⟩ := cut_pack BU.out NU.out hcu 8 8 rfl (by omega)
                      obtain ⟨ac, nc, pc, cutc, hbc, hnc, hpc, hsc⟩ := cut_pack BU.out NU.out hcu 16 16 rfl (by omega)
                      obtain ⟨ad, nd, pd, cutd, hbd, hnd, hpd, hsd⟩ := cut_pack BU.out NU.out hcu 24 24 rfl (by omega)
                      obtain ⟨ae, ne, pe, cute, hbe, hne, hpe, hse⟩ := cut_pack BU.out NU.out hcu 32 32 rfl (by omega)
                      have BE := Lib.hid hbe
                      have NE := Lib.hid hne
                      have l0 : W8 u < 18446744073709551616 := W8_lt BU.out.1
                      have l1 : W8 (u.drop 8) < 18446744073709551616 := W8_lt hbb.1
                      have l2 : W8 (u.drop 16) < 18446744073709551616 := W8_lt hbc.1
                      have l3 : W8 (u.drop 24) < 18446744073709551616 := W8_lt hbd.1
                      have cB0 := Lib.hid (fun (q : Nat) => word_any (n := nu) (cap := pu) (BU.out.drewN q) NU.out (by omega))
                      have cB1 := Lib.hid (fun (q : Nat) => word_any (n := nb) (cap := pb) (hbb.drewN q) hnb (by omega))
                      have cB2 := Lib.hid (fun (q : Nat) => word_any (n := nc) (cap := pc) (hbc.drewN q) hnc (by omega))
                      have cB3 := Lib.hid (fun (q : Nat) => word_any (n := nd) (cap := pd) (hbd.drewN q) hnd (by omega))
                      obtain ⟨D0, hD0⟩ : ∃ D, D = W8 u := ⟨_, rfl⟩
                      obtain ⟨D1, hD1⟩ : ∃ D, D = W8 (u.drop 8) := ⟨_, rfl⟩
                      obtain ⟨D2, hD2⟩ : ∃ D, D = W8 (u.drop 16) := ⟨_, rfl⟩
                      obtain ⟨D3, hD3⟩ : ∃ D, D = W8 (u.drop 24) := ⟨_, rfl⟩
                      rw [← hD0] at cB0 l0
                      rw [← hD1] at cB1 l1
                      rw [← hD2] at cB2 l2
                      rw [← hD3] at cB3 l3
                      have ho1 : bits .or .u64 (D0 : Int) (D1 : Int) = ((D0 ||| D1 : Nat) : Int) := u64_or_nat D0 D1 l0 l1
                      have ho2 : bits .or .u64 (D2 : Int) (D3 : Int) = ((D2 ||| D3 : Nat) : Int) := u64_or_nat D2 D3 l2 l3
                      have lo1 : D0 ||| D1 < 18446744073709551616 := Nat.or_lt_two_pow (n := 64) l0 l1
                      have lo2 : D2 ||| D3 < 18446744073709551616 := Nat.or_lt_two_pow (n := 64) l2 l3
                      have ho3 : bits .or .u64 ((D0 ||| D1 : Nat) : Int) ((D2 ||| D3 : Nat) : Int) = (((D0 ||| D1) ||| (D2 ||| D3) : Nat) : Int) := u64_or_nat _ _ lo1 lo2
                      have lo3 : (D0 ||| D1) ||| (D2 ||| D3) < 18446744073709551616 := Nat.or_lt_two_pow (n := 64) lo1 lo2
                      have hand3 : bits .and .u64 (((D0 ||| D1) ||| (D2 ||| D3) : Nat) : Int) 9259542123273814144 = ((((D0 ||| D1) ||| (D2 ||| D3)) &&& 9259542123273814144 : Nat) : Int) := u64_and_nat _ 9259542123273814144 lo3 (by omega)
                      obtain ⟨P1, hP1⟩ : ∃ P1, P1 = D0 ||| D1 := ⟨_, rfl⟩
                      obtain ⟨P2, hP2⟩ : ∃ P2, P2 = D2 ||| D3 := ⟨_, rfl⟩
                      rw [← hP1, ← hP2] at ho3 hand3
                      rw [← hP1] at ho1
                      rw [← hP2] at ho2
                      obtain ⟨P3, hP3⟩ : ∃ P3, P3 = P1 ||| P2 := ⟨_, rfl⟩
                      rw [← hP3] at ho3 hand3
                      obtain ⟨Z3, hZ3⟩ : ∃ Z3, Z3 = P3 &&& 9259542123273814144 := ⟨_, rfl⟩
                      rw [← hZ3] at hand3
                      have S6 : Hid (Z3 = ((W8 u ||| W8 (u.drop 8)) ||| (W8 (u.drop 16) ||| W8 (u.drop 24))) &&& 9259542123273814144) := by show Z3 = _; rw [hZ3, hP3, hP1, hP2, hD0, hD1, hD2, hD3]
                      clear hbb hnb hbc hnc hbd hnd hbe hne lo1 lo2 lo3 l0 l1 l2 l3 hD0 hD1 hD2 hD3 hP1 hP2 hP3 hZ3
                      by_cases hz3 : Z3 = 0
                      · have hz3b : ((Z3 : Int) == 0) = true := by simp [hz3]
                        have S7 : Hid (32 < u.length ∧ ((W8 u ||| W8 (u.drop 8)) ||| (W8 (u.drop 16) ||| W8 (u.drop 24))) &&& 9259542123273814144 = 0) := ⟨by rw [← NU.out]; exact c32, by rw [← S6.out]; exact hz3⟩
                        have SU : Hid (vstep (true, u) = .inl (true, u.drop 32)) := by show vT u = _; unfold vT; rw [if_pos S7.out]
                        clear S6 S7 hz3
                        go_wp2
                        go_quiet (first | with_reducible exact Calls.quiet_of (cB0.out _) | with_reducible exact Calls.quiet_of (cB1.out _) | with_reducible exact Calls.quiet_of (cB2.out _) | with_reducible exact Calls.quiet_of (cB3.out _))
                        go_wp2
                        go_roundg g3
                        case measure => omega
                        case rel => exact ⟨⟨_, _, _, _, rfl, BE.out.drewN nq, NE.out, hpe, by omega, fun b hb => JU.out b (.next SU.out hb), by omega, frm_tr FU.out ((Frm.refl _ _).drewN _)⟩, by omega⟩
                      · have hz3b : ((Z3 : Int) == 0) = false := by simp; omega
                        have S7 : Hid (¬ (32 < u.length ∧ ((W8 u ||| W8 (u.drop 8)) ||| (W8 (u.drop 16) ||| W8 (u.drop 24))) &&& 9259542123273814144 = 0)) := fun h => hz3 (by rw [S6.out]; exact h.2)
                        have SU : Hid (vstep (true, u) = .inl (false, u)) := by show vT u = _; unfold vT; rw [if_neg S7.out]
                        clear S6 S7 hz3
                        go_wp2
                        go_quiet (first | with_reducible exact Calls.quiet_of (cB0.out _) | with_reducible exact Calls.quiet_of (cB1.out _) | with_reducible exact Calls.quiet_of (cB2.out _) | with_reducible exact Calls.quiet_of (cB3.out _))
                        go_wp2
                        go_roundg g'
                        case measure => omega
                        case rel => exact ⟨_, _, _, _, rfl, BU.out.drewN nq, NU.out, hcu, by omega, fun b hb => JU.out b (.next SU.out hb), by omega, frm_tr FU.out ((Frm.refl _ _).drewN _)⟩
                    · have c32z : ¬ ((32 : Int) < (nu : Int)) := by omega
                      have c32b : decide ((32 : Int) < (nu : Int)) = false := decide_eq_false c32z
                      have S7 : Hid (¬ (32 < u.length ∧ ((W8 u ||| W8 (u.drop 8)) ||| (W8 (u.drop 16) ||| W8 (u.drop 24))) &&& 9259542123273814144 = 0)) := fun h => c32 (by rw [NU.out]; exact h.1)
                      have SU : Hid (vstep (true, u) = .inl (false, u)) := by show vT u = _; unfold vT; rw [if_neg S7.out]
                      clear S7
                      go_wp2
                      go_quiet (fail)
                      go_wp2
                      go_roundg g'
                      case measure => omega
                      case rel => exact ⟨_, _, _, _, rfl, BU.out.drewN nq, NU.out, hcu, by omega, fun b hb => JU.out b (.next SU.out hb), by omega, frm_tr FU.out ((Frm.refl _ _).drewN _)⟩
                · have hz2b : ((Z2 : Int) == 0) = false := by simp; omega
                  have S5 : Hid (¬ (16 < ((c.drop 1).drop 8).length ∧ (W8 ((c.drop 1).drop 8) ||| W8 (((c.drop 1).drop 8).drop 8)) &&& 9259542123273814144 = 0)) := fun h => hz2 (by rw [S4.out]; exact h.2)
                  have ST : Hid (vstep (false, c) = .inl (false, (c.drop 1).drop 8)) := by show vF c = _; unfold vF; rw [if_neg S0.out, if_pos S1.out, if_pos S3.out, if_neg S5.out]
                  clear S0 S1 S3 S4 S5 hz2
                  go_wp2
                  go_quiet (first | with_reducible exact Calls.quiet_of (cW2.out _) | with_reducible exact Calls.quiet_of (cW3.out _))
                  go_wp2
                  go_roundg g'
                  case measure => omega
                  case rel => exact ⟨_, _, _, _, rfl, B2'.out.drewN nq, N2.out, hp2, by omega, fun b hb => J.out b (.next ST.out hb), by omega, frm_tr (frm_tr F.out F1.out) ((Frm.refl _ _).drewN _)⟩
              · have c16z : ¬ ((16 : Int) < (n2 : Int)) := by omega
                have c16b : decide ((16 : Int) < (n2 : Int)) = false := decide_eq_false c16z
                have S5 : Hid (¬ (16 < ((c.drop 1).drop 8).length ∧ (W8 ((c.drop 1).drop 8) ||| W8 (((c.drop 1).drop 8).drop 8)) &&& 9259542123273814144 = 0)) := fun h => c16 (by rw [N2.out]; exact h.1)
                have ST : Hid (vstep (false, c) = .inl (false, (c.drop 1).drop 8)) := by show vF c = _; unfold vF; rw [if_neg S0.out, if_pos S1.out, if_pos S3.out, if_neg S5.out]
                clear S0 S1 S3 S5
                go_wp2
                go_quiet (fail)
                go_wp2
                go_roundg g'
                case measure => omega
                case rel => exact ⟨_, _, _, _, rfl, B2'.out.drewN nq, N2.out, hp2, by omega, fun b hb => J.out b (.next ST.out hb), by omega, frm_tr (frm_tr F.out F1.out) ((Frm.refl _ _).drewN _)⟩
            · have hz1b : ((Z1 : Int) == 0) = false := by simp; omega
              have S3 : Hid (¬ (8 < (c.drop 1).length ∧ W8 (c.drop 1) &&& 9259542123273814144 = 0)) := fun h => hz1 (by rw [S2.out]; exact h.2)
              have ST : Hid (vstep (false, c) = .inl (false, c.drop 1)) := by show vF c = _; unfold vF; rw [if_neg S0.out, if_pos S1.out, if_neg S3.out]
              clear S0 S1 S2 S3 hz1
              go_wp2_with fail
              refine cW1.out.mono ?_
              rintro e W1 ⟨rfl, q1, rfl⟩
              go_wp2
              go_roundg g'
              case measure => omega
              case rel => exact ⟨_, _, _, _, rfl, B1.out.drewN q1, N1.out, hp1, by omega, fun b hb => J.out b (.next ST.out hb), by omega, frm_tr F.out ((Frm.refl _ _).drewN _)⟩
          · have c8z : ¬ ((8 : Int) < (n1 : Int)) := by omega
            have S3 : Hid (¬ (8 < (c.drop 1).length ∧ W8 (c.drop 1) &&& 9259542123273814144 = 0)) := fun h => c8 (by rw [N1.out]; exact h.1)
            have ST : Hid (vstep (false, c) = .inl (false, c.drop 1)) := by show vF c = _; unfold vF; rw [if_neg S0.out, if_pos S1.out, if_neg S3.out]
            clear S0 S1 S3
            go_wp2
            go_roundg g'
            case measure => omega
            case rel => exact ⟨_, _, _, _, rfl, B1.out, N1.out, hp1, by omega, fun b hb => J.out b (.next ST.out hb), by omega, F.out⟩
      · as_aux_lemma =>
          have hge : ¬ ((x0 : Int) < 128) := by omega
          have S1 : Hid (¬ c.getD 0 0 < 128) := by rw [← X0.out]; exact hasc
          have S0 : Hid (¬ c.length = 0) := by rw [← HN.out]; show ¬ n = 0; omega
          have hc0 := HT'.out.1 x0 e0
          have hXlt : Lib.firstT x0 < 256 := by rcases Lib.firstT_cases x0 with h | h | h | h | h | h | h | h | h <;> omega
          obtain ⟨X, hX⟩ : ∃ X, X = Lib.firstT x0 := ⟨_, rfl⟩
          rw [← hX] at hc0 hXlt
          have XF : Hid (X = Lib.firstT (c.getD 0 0)) := by rw [← X0.out]; exact hX
          have h7 := and7 ⟨X, hXlt⟩
          simp only at h7
          obtain ⟨LO, hLO⟩ : ∃ LO, LO = Lib.accLo (X / 16) := ⟨_, rfl⟩
          obtain ⟨HI, hHI⟩ : ∃ HI, HI = Lib.accHi (X / 16) := ⟨_, rfl⟩
          have ha0 : wr.cell? ⟨1, X / 16 * 2, none⟩ = some (.int .u8 LO) := by rw [Nat.mul_comm, hLO]; exact (HT'.out.2 (X / 16) (by omega)).1
          have ha1 : wr.cell? ⟨1, X / 16 * 2 + 1, none⟩ = some (.int .u8 HI) := by rw [Nat.mul_comm, hHI]; exact (HT'.out.2 (X / 16) (by omega)).2
          have LF : Hid (LO = Lib.accLo (Lib.firstT (c.getD 0 0) / 16)) := by rw [← XF.out]; exact hLO
          have HF : Hid (HI = Lib.accHi (Lib.firstT (c.getD 0 0) / 16)) := by rw [← XF.out]; exact hHI
          obtain ⟨SZ, hSZ⟩ : ∃ SZ, SZ = X % 8 := ⟨_, rfl⟩
          have SF : Hid (SZ = Lib.firstT (c.getD 0 0) % 8) := by rw [← XF.out]; exact hSZ
          have SQ := Lib.hid hSZ
          have e1 := getD_lt B.out.1 1; have e2 := getD_lt B.out.1 2; have e3 := getD_lt B.out.1 3
          obtain ⟨x1, hx1⟩ : ∃ x, x = c.getD 1 0 := ⟨_, rfl⟩
          rw [← hx1] at e1
          have Y1 := Lib.hid hx1
          obtain ⟨x2, hx2⟩ : ∃ x, x = c.getD 2 0 := ⟨_, rfl⟩
          rw [← hx2] at e2
          have Y2 := Lib.hid hx2
          obtain ⟨x3, hx3⟩ : ∃ x, x = c.getD 3 0 := ⟨_, rfl⟩
          rw [← hx3] at e3
          have Y3 := Lib.hid hx3
          have F2 : Hid (Frm [] wr (wr.alloc (.cells #[.int .u8 LO, .int .u8 HI] 72))) := (Frm.refl _ _).alloc _
          have AL : Hid (Whole (wr.alloc (.cells #[.int .u8 LO, .int .u8 HI] 72)) wr.heap.size 72 #[.int .u8 LO, .int .u8 HI]) := Whole.made _ _ _
          clear hasc hX hLO hHI hSZ hx1 hx2 hx3 HT'
          by_cases s2 : SZ = 2
          · have Q : Hid (Lib.firstT (c.getD 0 0) % 8 = 2) := by rw [← SF.out]; exact s2
            have hSZz : (X : Int) % 8 = 2 := by have := SQ.out; omega
            have EQV : Hid ((c.length < 2 ∨ c.getD 1 0 < Lib.accLo (Lib.firstT (c.getD 0 0) / 16) ∨ Lib.accHi (Lib.firstT (c.getD 0 0) / 16) < c.getD 1 0) ↔ (n < 2 ∨ x1 < LO ∨ HI < x1)) := by rw [← HN.out, ← LF.out, ← HF.out, ← Y1.out]; exact Iff.rfl
            have STF : Hid (((n < 2 ∨ x1 < LO ∨ HI < x1) → vstep (false, c) = .inr false) ∧ (¬ (n < 2 ∨ x1 < LO ∨ HI < x1) → vstep (false, c) = .inl (false, c.drop 2))) := ⟨fun h => by show vF c = _; unfold vF; rw [if_neg S0.out, if_neg S1.out, if_pos Q.out, if_pos (EQV.out.2 h)], fun h => by show vF c = _; unfold vF; rw [if_neg S0.out, if_neg S1.out, if_pos Q.out, if_neg (fun h' => h (EQV.out.1 h'))]⟩
            clear EQV s2 LF HF SF XF
            go_wp2
            obtain ⟨W2, hW2⟩ : ∃ W2, W2 = wr.alloc (.cells #[.int .u8 LO, .int .u8 HI] 72) := ⟨_, rfl⟩
            rw [← hW2] at F2 AL ⊢
            obtain ⟨g, hg⟩ : ∃ g, g = wr.heap.size := ⟨_, rfl⟩
            rw [← hg] at AL ⊢
            have d0 := AL.out.cell 0
            have d1 := AL.out.cell 1
            simp at d0 d1
            clear hW2 hg k0 hc0 ha0 ha1 h7
            by_cases q0 : n < 2
            · have q0z : (n : Int) < 2 := by omega
              go_quiet (fail)
              go_wp2
              all_goals (go_ret; exact ⟨false, rfl, J.out _ (.done (STF.out.1 (by omega))), frm_tr F.out (frm_tr F2.out ((Frm.refl _ _).drewN _))⟩)
            have q0z : ¬ ((n : Int) < 2) := by omega
            have z1 : (1 : Int) < (n : Int) := by omega
            have m1 : W2.cell? ⟨b, off + 1, none⟩ = some (.int .u8 (x1 : Nat)) := by rw [Y1.out]; exact frm_at F2.out (CL.out 1 (by have := HN.out; omega)) (by simp)
            by_cases qlo : x1 < LO
            · have plo : (x1 : Int) < (LO : Int) := by omega
              go_quiet (fail)
              go_wp2
              all_goals (go_ret; exact ⟨false, rfl, J.out _ (.done (STF.out.1 (by omega))), frm_tr F.out (frm_tr F2.out ((Frm.refl _ _).drewN _))⟩)
            have plo : ¬ ((x1 : Int) < (LO : Int)) := by omega
            by_cases qhi : HI < x1
            · have phi : (HI : Int) < (x1 : Int) := by omega
              go_quiet (fail)
              go_wp2
              all_goals (go_ret; exact ⟨false, rfl, J.out _ (.done (STF.out.1 (by omega))), frm_tr F.out (frm_tr F2.out ((Frm.refl _ _).drewN _))⟩)
            have phi : ¬ ((HI : Int) < (x1 : Int)) := by omega
            obtain ⟨aj, nj, pj, cutj, hbj, hnj, hpj, hsj⟩ := cut_pack B.out HN.out hc 2 2 rfl (by omega)
            have BJ := Lib.hid (F2.out.bytes hbj (by simp))
            have NJ := Lib.hid hnj
            have SN := Lib.hid (STF.out.2 (by omega))
            clear hbj hnj
            go_quiet (fail)
            go_wp2
            go_roundg g'
            case measure => omega
            case rel => exact ⟨_, _, _, _, rfl, BJ.out.drewN nq, NJ.out, hpj, by omega, fun b hb => J.out b (.next SN.out hb), by omega, frm_tr F.out (frm_tr F2.out ((Frm.refl _ _).drewN _))⟩
          have Q2 : Hid (¬ Lib.firstT (c.getD 0 0) % 8 = 2) := by rw [← SF.out]; exact s2
          have r2 : (((X : Int) % 8) == 2) = false := by have := SQ.out; simp; omega
          clear s2
          by_cases s3 : SZ = 3
          · have Q : Hid (Lib.firstT (c.getD 0 0) % 8 = 3) := by rw [← SF.out]; exact s3
            have hSZz : (X : Int) % 8 = 3 := by have := SQ.out; omega
            have EQV : Hid ((c.length < 3 ∨ c.getD 1 0 < Lib.accLo (Lib.firstT (c.getD 0 0) / 16) ∨ Lib.accHi (Lib.firstT (c.getD 0 0) / 16) < c.getD 1 0 ∨ c.getD 2 0 < 128 ∨ 191 < c.getD 2 0) ↔ (n < 3 ∨ x1 < LO ∨ HI < x1 ∨ x2 < 128 ∨ 191 < x2)) := by rw [← HN.out, ← LF.out, ← HF.out, ← Y1.out, ← Y2.out]; exact Iff.rfl
            have STF : Hid (((n < 3 ∨ x1 < LO ∨ HI < x1 ∨ x2 < 128 ∨ 191 < x2) → vstep (false, c) = .inr false) ∧ (¬ (n < 3 ∨ x1 < LO ∨ HI < x1 ∨ x2 < 128 ∨ 191 < x2) → vstep (false, c) = .inl (false, c.drop 3))) := ⟨fun h => by show vF c = _; unfold vF; rw [if_neg S0.out, if_neg S1.out, if_neg Q2.out, if_pos Q.out, if_pos (EQV.out.2 h)], fun h => by show vF c = _; unfold vF; rw [if_neg S0.out, if_neg S1.out, if_neg Q2.out, if_pos Q.out, if_neg (fun h' => h (EQV.out.1 h'))]⟩
            clear EQV s3 LF HF SF XF
            go_wp2
            obtain ⟨W2, hW2⟩ : ∃ W2, W2 = wr.alloc (.cells #[.int .u8 LO, .int .u8 HI] 72) := ⟨_, rfl⟩
            rw [← hW2] at F2 AL ⊢
            obtain ⟨g, hg⟩ : ∃ g, g = wr.heap.size := ⟨_, rfl⟩
            rw [← hg] at AL ⊢
            have d0 := AL.out.cell 0
            have d1 := AL.out.cell 1
            simp at d0 d1
            clear hW2 hg k0 hc0 ha0 ha1 h7
            by_cases q0 : n < 3
            · have q0z : (n : Int) < 3 := by omega
              go_quiet (fail)
              go_wp2
              all_goals (go_ret; exact ⟨false, rfl, J.out _ (.done (STF.out.1 (by omega))), frm_tr F.out (frm_tr F2.out ((Frm.refl _ _).drewN _))⟩)
            have q0z : ¬ ((n : Int) < 3) := by omega
            have z1 : (1 : Int) < (n : Int) := by omega
            have m1 : W2.cell? ⟨b, off + 1, none⟩ = some (.int .u8 (x1 : Nat)) := by rw [Y1.out]; exact frm_at F2.out (CL.out 1 (by have := HN.out; omega)) (by simp)
            have z2 : (2 : Int) < (n : Int) := by omega
            have m2 : W2.cell? ⟨b, off + 2, none⟩ = some (.int .u8 (x2 : Nat)) := by rw [Y2.out]; exact frm_at F2.out (CL.out 2 (by have := HN.out; omega)) (by simp)
            by_cases qlo : x1 < LO
            · have plo : (x1 : Int) < (LO : Int) := by omega
              go_quiet (fail)
              go_wp2
              all_goals (go_ret; exact ⟨false, rfl, J.out _ (.done (STF.out.1 (by omega))), frm_tr F.out (frm_tr F2.out ((Frm.refl _ _).drewN _))⟩)
            have plo : ¬ ((x1 : Int) < (LO : Int)) := by omega
            by_cases qhi : HI < x1
            · have phi : (HI : Int) < (x1 : Int) := by omega
              go_quiet (fail)
              go_wp2
              all_goals (go_ret; exact ⟨false, rfl, J.out _ (.done (STF.out.1 (by omega))), frm_tr F.out (frm_tr F2.out ((Frm.refl _ _).drewN _))⟩)
            have phi : ¬ ((HI : Int) < (x1 : Int)) := by omega
            by_cases qa2 : x2 < 128
            · have pa2 : (x2 : Int) < 128 := by omega
              go_quiet (fail)
              go_wp2
              all_goals (go_ret; exact ⟨false, rfl, J.out _ (.done (STF.out.1 (by omega))), frm_tr F.out (frm_tr F2.out ((Frm.refl _ _).drewN _))⟩)
            have pa2 : ¬ ((x2 : Int) < 128) := by omega
            by_cases qb2 : 191 < x2
            · have pb2 : (191 : Int) < (x2 : Int) := by omega
              go_quiet (fail)
              go_wp2
              all_goals (go_ret; exact ⟨false, rfl, J.out _ (.done (STF.out.1 (by omega))), frm_tr F.out (frm_tr F2.out ((Frm.refl _ _).drewN _))⟩)
            have pb2 : ¬ ((191 : Int) < (x2 : Int)) := by omega
            obtain ⟨aj, nj, pj, cutj, hbj, hnj, hpj, hsj⟩ := cut_pack B.out HN.out hc 3 3 rfl (by omega)
            have BJ := Lib.hid (F2.out.bytes hbj (by simp))
            have NJ := Lib.hid hnj
            have SN := Lib.hid (STF.out.2 (by omega))
            clear hbj hnj
            go_quiet (fail)
            go_wp2
            go_roundg g'
            case measure => omega
            case rel => exact ⟨_, _, _, _, rfl, BJ.out.drewN nq, NJ.out, hpj, by omega, fun b hb => J.out b (.next SN.out hb), by omega, frm_tr F.out (frm_tr F2.out ((Frm.refl _ _).drewN _))⟩
          have Q3 : Hid (¬ Lib.firstT (c.getD 0 0) % 8 = 3) := by rw [← SF.out]; exact s3
          have r3 : (((X : Int) % 8) == 3) = false := by have := SQ.out; simp; omega
          clear s3
          by_cases s4 : SZ = 4
          · have Q : Hid (Lib.firstT (c.getD 0 0) % 8 = 4) := by rw [← SF.out]; exact s4
            have hSZz : (X : Int) % 8 = 4 := by have := SQ.out; omega
            have EQV : Hid ((c.length < 4 ∨ c.getD 1 0 < Lib.accLo (Lib.firstT (c.getD 0 0) / 16) ∨ Lib.accHi (Lib.firstT (c.getD 0 0) / 16) < c.getD 1 0 ∨ c.getD 2 0 < 128 ∨ 191 < c.getD 2 0 ∨ c.getD 3 0 < 128 ∨ 191 < c.getD 3 0) ↔ (n < 4 ∨ x1 < LO ∨ HI < x1 ∨ x2 < 128 ∨ 191 < x2 ∨ x3 < 128 ∨ 191 < x3)) := by rw [← HN.out, ← LF.out, ← HF.out, ← Y1.out, ← Y2.out, ← Y3.out]; exact Iff.rfl
            have STF : Hid (((n < 4 ∨ x1 < LO ∨ HI < x1 ∨ x2 < 128 ∨ 191 < x2 ∨ x3 < 128 ∨ 191 < x3) → vstep (false, c) = .inr false) ∧ (¬ (n < 4 ∨ x1 < LO ∨ HI < x1 ∨ x2 < 128 ∨ 191 < x2 ∨ x3 < 128 ∨ 191 < x3) → vstep (false, c) = .inl (false, c.drop 4))) := ⟨fun h => by show vF c = _; unfold vF; rw [if_neg S0.out, if_neg S1.out, if_neg Q2.out, if_neg Q3.out, if_pos Q.out, if_pos (EQV.out.2 h)], fun h => by show vF c = _; unfold vF; rw [if_neg S0.out, if_neg S1.out, if_neg Q2.out, if_neg Q3.out, if_pos Q.out, if_neg (fun h' => h (EQV.out.1 h'))]⟩
            clear EQV s4 LF HF SF XF
            go_wp2
            obtain ⟨W2, hW2⟩ : ∃ W2, W2 = wr.alloc (.cells #[.int .u8 LO, .int .u8 HI] 72) := ⟨_, rfl⟩
            rw [← hW2] at F2 AL ⊢
            obtain ⟨g, hg⟩ : ∃ g, g = wr.heap.size := ⟨_, rfl⟩
            rw [← hg] at AL ⊢
            have d0 := AL.out.cell 0
            have d1 := AL.out.cell 1
            simp at d0 d1
            clear hW2 hg k0 hc0 ha0 ha1 h7
            by_cases q0 : n < 4
            · have q0z : (n : Int) < 4 := by omega
              go_quiet (fail)
              go_wp2
              all_goals (go_ret; exact ⟨false, rfl, J.out _ (.done (STF.out.1 (by omega))), frm_tr F.out (frm_tr F2.out ((Frm.refl _ _).drewN _))⟩)
            have q0z : ¬ ((n : Int) < 4) := by omega
            have z1 : (1 : Int) < (n : Int) := by omega
            have m1 : W2.cell? ⟨b, off + 1, none⟩ = some (.int .u8 (x1 : Nat)) := by rw [Y1.out]; exact frm_at F2.out (CL.out 1 (by have := HN.out; omega)) (by simp)
            have z2 : (2 : Int) < (n : Int) := by omega
            have m2 : W2.cell? ⟨b, off + 2, none⟩ = some (.int .u8 (x2 : Nat)) := by rw [Y2.out]; exact frm_at F2.out (CL.out 2 (by have := HN.out; omega)) (by simp)
            have z3 : (3 : Int) < (n : Int) := by omega
            have m3 : W2.cell? ⟨b, off + 3, none⟩ = some (.int .u8 (x3 : Nat)) := by rw [Y3.out]; exact frm_at F2.out (CL.out 3 (by have := HN.out; omega)) (by simp)
            by_cases qlo : x1 < LO
            · have plo : (x1 : Int) < (LO : Int) := by omega
              go_quiet (fail)
              go_wp2
              all_goals (go_ret; exact ⟨false, rfl, J.out _ (.done (STF.out.1 (by omega))), frm_tr F.out (frm_tr F2.out ((Frm.refl _ _).drewN _))⟩)
            have plo : ¬ ((x1 : Int) < (LO : Int)) := by omega
            by_cases qhi : HI < x1
            · have phi : (HI : Int) < (x1 : Int) := by omega
              go_quiet (fail)
              go_wp2
              all_goals (go_ret; exact ⟨false, rfl, J.out _ (.done (STF.out.1 (by omega))), frm_tr F.out (frm_tr F2.out ((Frm.refl _ _).drewN _))⟩)
            have phi : ¬ ((HI : Int) < (x1 : Int)) := by omega
            by_cases qa2 : x2 < 128
            · have pa2 : (x2 : Int) < 128 := by omega
              go_quiet (fail)
              go_wp2
              all_goals (go_ret; exact ⟨false, rfl, J.out _ (.done (STF.out.1 (by omega))), frm_tr F.out (frm_tr F2.out ((Frm.refl _ _).drewN _))⟩)
            have pa2 : ¬ ((x2 : Int) < 128) := by omega
            by_cases qb2 : 191 < x2
            · have pb2 : (191 : Int) < (x2 : Int) := by omega
              go_quiet (fail)
              go_wp2
              all_goals (go_ret; exact ⟨false, rfl, J.out _ (.done (STF.out.1 (by omega))), frm_tr F.out (frm_tr F2.out ((Frm.refl _ _).drewN _))⟩)
            have pb2 : ¬ ((191 : Int) < (x2 : Int)) := by omega
            by_cases qa3 : x3 < 128
            · have pa3 : (x3 : Int) < 128 := by omega
              go_quiet (fail)
              go_wp2
              all_goals (go_ret; exact ⟨false, rfl, J.out _ (.done (STF.out.1 (by omega))), frm_tr F.out (frm_tr F2.out ((Frm.refl _ _).drewN _))⟩)
            have pa3 : ¬ ((x3 : Int) < 128) := by omega
            by_cases qb3 : 191 < x3
            · have pb3 : (191 : Int) < (x3 : Int) := by omega
              go_quiet (fail)
              go_wp2
              all_goals (go_ret; exact ⟨false, rfl, J.out _ (.done (STF.out.1 (by omega))), frm_tr F.out (frm_tr F2.out ((Frm.refl _ _).drewN _))⟩)
            have pb3 : ¬ ((191 : Int) < (x3 : Int)) := by omega
            obtain ⟨aj, nj, pj, cutj, hbj, hnj, hpj, hsj⟩ := cut_pack B.out HN.out hc 4 4 rfl (by omega)
            have BJ := Lib.hid (F2.out.bytes hbj (by simp))
            have NJ := Lib.hid hnj
            have SN := Lib.hid (STF.out.2 (by omega))
            clear hbj hnj
            go_quiet (fail)
            go_wp2
            go_roundg g'
            case measure => omega
            case rel => exact ⟨_, _, _, _, rfl, BJ.out.drewN nq, NJ.out, hpj, by omega, fun b hb => J.out b (.next SN.out hb), by omega, frm_tr F.out (frm_tr F2.out ((Frm.refl _ _).drewN _))⟩
          have Q4 : Hid (¬ Lib.firstT (c.getD 0 0) % 8 = 4) := by rw [← SF.out]; exact s4
          have r4 : (((X : Int) % 8) == 4) = false := by have := SQ.out; simp; omega
          clear s4
          have ST : Hid (vstep (false, c) = .inr false) := by show vF c = _; unfold vF; rw [if_neg S0.out, if_neg S1.out, if_neg Q2.out, if_neg Q3.out, if_neg Q4.out]
          go_wp2
          go_ret
          exact ⟨false, rfl, J.out _ (.done ST.out), frm_tr F.out F2.out⟩
    · have h0z : ¬ (0 : Int) < (n : Int) := by omega
      have ST : Hid (vstep (false, c) = .inr true) := by show vF c = _; unfold vF; rw [if_pos (by rw [← HN.out]; omega)]
      go_wp2
      go_ret
      exact ⟨true, rfl, J.out _ (.done ST.out), F.out⟩
end Go.Proofs.YtpamiglinmfgkaaDoor
