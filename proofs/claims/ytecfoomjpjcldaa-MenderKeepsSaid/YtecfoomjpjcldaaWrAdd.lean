/- Contract of the writer's Add. -/
import Derived.Test.YtecfoomjpjcldaaWrBase
import Derived.Deep.Cut
import Derived.Deep.QuietTactic
import Derived.BigQuiet
namespace Go.Proofs.Ytecfoomjpjcldaa
open Go.RowKit
set_option maxRecDepth 100000
/-- One in the place of another, nobody having it. -/
def setE (Y : List Value) (k : Nat) (v : Value) : List Value := (((((((Y.set (k * 8) v).set (k * 8 + 1) (.bool false)).set (k * 8 + 2) (.bool false)).set (k * 8 + 3) (.bool false)).set (k * 8 + 4) (.bool false)).set (k * 8 + 5) (.bool false)).set (k * 8 + 6) (.bool false)).set (k * 8 + 7) (.bool false)
theorem setE_len (Y : List Value) (k : Nat) (v : Value) : (setE Y k v).length = Y.length := by simp [setE]
theorem setE_at (Y : List Value) (k : Nat) (v : Value) (i : Nat) (hi : i < Y.length) : (setE Y k v)[i]? = if i = k * 8 then some v else if k * 8 < i ∧ i < k * 8 + 8 then some (.bool false) else Y[i]? := by
  unfold setE
  simp only [List.getElem?_set, List.length_set]
  by_cases h0 : i = k * 8
  · subst h0
    simp [hi]
  · by_cases h1 : k * 8 < i ∧ i < k * 8 + 8
    · rw [if_neg h0, if_pos h1]
      have : i = k * 8 + 1 ∨ i = k * 8 + 2 ∨ i = k * 8 + 3 ∨ i = k * 8 + 4 ∨ i = k * 8 + 5 ∨ i = k * 8 + 6 ∨ i = k * 8 + 7 := by omega
      rcases this with rfl | rfl | rfl | rfl | rfl | rfl | rfl <;> simp [hi]
    · rw [if_neg h0, if_neg h1]
      rw [if_neg (by omega), if_neg (by omega), if_neg (by omega), if_neg (by omega), if_neg (by omega), if_neg (by omega), if_neg (by omega), if_neg (by omega)]
theorem Whole.setE {w : World} {p k : Nat} {P W A : Int} {su co : Nat} {cl : Bool} {Y : List Value} {v : Value} (h : Whole w p 98 (wrC P W A su co cl Y)) :
    Whole ((((((((w.setCell ⟨p, 6 + k * 8, none⟩ v).setCell ⟨p, 6 + k * 8 + 1, none⟩ (.bool false)).setCell ⟨p, 6 + k * 8 + 2, none⟩ (.bool false)).setCell ⟨p, 6 + k * 8 + 3, none⟩ (.bool false)).setCell ⟨p, 6 + k * 8 + 4, none⟩ (.bool false)).setCell ⟨p, 6 + k * 8 + 5, none⟩ (.bool false)).setCell ⟨p, 6 + k * 8 + 6, none⟩ (.bool false)).setCell ⟨p, 6 + k * 8 + 7, none⟩ (.bool false)) p 98 (wrC P W A su co cl (setE Y k v)) := by
  have h8 := (((((((h.put (6 + k * 8) v).put (6 + k * 8 + 1) (.bool false)).put (6 + k * 8 + 2) (.bool false)).put (6 + k * 8 + 3) (.bool false)).put (6 + k * 8 + 4) (.bool false)).put (6 + k * 8 + 5) (.bool false)).put (6 + k * 8 + 6) (.bool false)).put (6 + k * 8 + 7) (.bool false)
  rw [wrC_set, show 6 + k * 8 + 1 = 6 + (k * 8 + 1) from Nat.add_assoc _ _ _, wrC_set, show 6 + k * 8 + 2 = 6 + (k * 8 + 2) from Nat.add_assoc _ _ _, wrC_set, show 6 + k * 8 + 3 = 6 + (k * 8 + 3) from Nat.add_assoc _ _ _, wrC_set, show 6 + k * 8 + 4 = 6 + (k * 8 + 4) from Nat.add_assoc _ _ _, wrC_set, show 6 + k * 8 + 5 = 6 + (k * 8 + 5) from Nat.add_assoc _ _ _, wrC_set, show 6 + k * 8 + 6 = 6 + (k * 8 + 6) from Nat.add_assoc _ _ _, wrC_set, show 6 + k * 8 + 7 = 6 + (k * 8 + 7) from Nat.add_assoc _ _ _, wrC_set] at h8
  exact h8
/-- The row behind it: the new one at the place k, the others as they were. -/
theorem WrE.new {w : World} {F : List Nat} {Y : List Value} {k : Nat} {a : Option Addr} {c : Nat} {d : List Nat} (hY : Y.length = 512) (hk : k < 64) (hb : Bytes w a d) (hF : d ≠ [] → ∀ x, a = some x → x.block ∉ F) (hnil : a = none → c = 0) : WrE w F (setE Y k (.slice a d.length c)) k d (fun _ => false) := by
  refine ⟨⟨a, c, ?_, hb, hF, hnil⟩, fun j hj => ?_⟩
  · rw [setE_at _ _ _ _ (by omega), if_pos rfl]
  · rw [setE_at _ _ _ _ (by omega), if_neg (by omega), if_pos (by omega)]
theorem WrE.other {w : World} {F : List Nat} {Y : List Value} {k k' : Nat} {v : Value} {d : List Nat} {h : Nat → Bool} (he : WrE w F Y k' d h) (hY : Y.length = 512) (hk : k' < 64) (hne : k' ≠ k) : WrE w F (setE Y k v) k' d h := by
  obtain ⟨a, c, h1, h2, h3, h4⟩ := he.data
  refine ⟨⟨a, c, ?_, h2, h3, h4⟩, fun j hj => ?_⟩
  · rw [setE_at _ _ _ _ (by omega), if_neg (by omega), if_neg (by omega)]; exact h1
  · rw [setE_at _ _ _ _ (by omega), if_neg (by omega), if_neg (by omega)]; exact he.has j hj
def wrAddE (D : List (List Nat)) (su : Nat) (cl : Bool) (n : Nat) : Nat := if cl = true then 24 else if 256 < n then 3 else if D.length = su + 64 ∨ D.length = 1048576 then 14 else 0
def hasNew (H : Nat → Nat → Bool) (k : Nat) : Nat → Nat → Bool := fun n => if n = k then fun _ => false else H n
/-- What Add answers and leaves. -/
def WrAddEnd (w : World) (B p : Nat) (F : List Nat) (P W A : Nat) (D : List (List Nat)) (H : Nat → Nat → Bool) (su : Nat) (cl : Bool) (d : List Nat) (e : Ending) (w' : World) : Prop :=
  Frm [p] w w' ∧ ((wrAddE D su cl d.length ≠ 0 ∧ e = .returned (.tuple #[.int .u64 0, .int .i64 (wrAddE D su cl d.length : Nat)]) ∧ Wq w' B p F P W A D H su cl) ∨
    (wrAddE D su cl d.length = 0 ∧ e = .returned (.tuple #[.int .u64 (D.length : Nat), .int .i64 0]) ∧ Wq w' B p F P W A (D ++ [d]) (hasNew H D.length) su cl))
set_option maxHeartbeats 8000000 in
theorem wradd_any {w : World} {B p : Nat} {F : List Nat} {P W A : Nat} {D : List (List Nat)} {H : Nat → Nat → Bool} {su : Nat} {cl : Bool} (a : Option Addr) (n cap : Nat) (d : List Nat) (h : Wq w B p F P W A D H su cl) (hF : ∀ x ∈ F, x < w.heap.size) (hb : Bytes w a d) (hn : n = d.length) (hnil : a = none → cap = 0) :
    Calls Try.prog 16 #[.pointer (some ⟨p, 0, none⟩), .slice a n cap] w (WrAddEnd w B p F P W A D H su cl d) := by
  obtain ⟨Q, hQ⟩ : ∃ Q, Q = WrAddEnd w B p F P W A D H su cl d := ⟨_, rfl⟩
  rw [← hQ]
  have BAD : Hid (∀ k : Nat, k ≠ 0 → wrAddE D su cl n = k → ∀ z, Frm [] w z → Q (.returned (.tuple #[.int .u64 0, .int .i64 (k : Nat)])) z) := Lib.hid fun k hk he z hz => by
    rw [hQ]
    rw [hn] at he
    exact ⟨hz.weak (by simp), .inl ⟨by rw [he]; exact hk, by rw [he], h.here hz⟩⟩
  obtain ⟨Y, hY, hl, he⟩ := h.box
  obtain ⟨q0, q1, q2, q3, q4, q5⟩ := wrC_head P W A su D.length cl Y
  have c3 := (hY.cell 3).trans q3
  have c4 := (hY.cell 4).trans q4
  have c5 := (hY.cell 5).trans q5
  obtain ⟨w1, w2, w3⟩ := h.wait
  obtain ⟨co, hco⟩ : ∃ co, co = D.length := ⟨_, rfl⟩
  rw [← hco] at c4
  obtain ⟨t, ht⟩ : ∃ t, co = su + t := ⟨co - su, by omega⟩
  have ht64 : t ≤ 64 := by omega
  have hco20 : co ≤ 1048576 := by omega
  have hsub : IntKind.u64.wrap ((co : Int) - (su : Int)) = (t : Int) := by simp [IntKind.wrap, IntKind.bits, IntKind.signed]; omega
  have H0 := Lib.hid h
  have HY := Lib.hid hY
  have HL := Lib.hid hl
  have HE := Lib.hid he
  have HB := Lib.hid hb
  have HN := Lib.hid hn
  have HNIL := Lib.hid hnil
  have HCO := Lib.hid hco
  have HT := Lib.hid ht
  have HFL := Lib.hid hF
  have HQ := Lib.hid hQ
  have HEF : Hid (wrAddE D su cl n = if cl = true then 24 else if 256 < n then 3 else if t = 64 ∨ co = 1048576 then 14 else 0) := Lib.hid (by unfold wrAddE; rw [← hco]; congr 2; simp only [show (co = su + 64) = (t = 64) from propext (by omega)])
  clear h hY hl he hb hn hnil hco ht hF hQ q0 q1 q2 q3 q4 q5 w1 w2 w3
  cases cl with
  | true =>
    have HX := Lib.hid (BAD.out 24 (by decide) (by rw [HEF.out]; rfl))
    clear BAD
    go_enter Try.func16, Try.ntmps16
    go_wp2
    exact HX.out _ (Frm.refl _ _)
  | false =>
    by_cases h256 : 256 < n
    · have HX := Lib.hid (BAD.out 3 (by decide) (by rw [HEF.out, if_neg (by simp), if_pos h256]))
      have d1 : decide ((256 : Int) < (n : Int)) = true := decide_eq_true (by omega)
      clear BAD h256
      go_enter Try.func16, Try.ntmps16
      go_wp2
      exact HX.out _ (Frm.refl _ _)
    · have d1 : decide ((256 : Int) < (n : Int)) = false := decide_eq_false (by omega)
      by_cases hfull : t = 64 ∨ co = 1048576
      · have HX := Lib.hid (BAD.out 14 (by decide) (by rw [HEF.out, if_neg (by simp), if_neg h256, if_pos hfull]))
        clear BAD
        go_enter Try.func16, Try.ntmps16
        by_cases h64 : t = 64
        · have e1 : ((t : Int) == 64) = true := by rw [beq_iff_eq]; omega
          clear hfull h64
          go_wp2
          go_quiet (fail)
          go_wp2
          exact HX.out _ ((Frm.refl _ _).drewN _)
        · have e1 : ((t : Int) == 64) = false := by rw [beq_eq_false_iff_ne]; omega
          have e2 : ((co : Int) == 1048576) = true := by rw [beq_iff_eq]; omega
          clear hfull h64
          go_wp2
          go_quiet (fail)
          go_wp2
          exact HX.out _ ((Frm.refl _ _).drewN _)
      · have e1 : ((t : Int) == 64) = false := by rw [beq_eq_false_iff_ne]; omega
        have e2 : ((co : Int) == 1048576) = false := by rw [beq_eq_false_iff_ne]; omega
        have HX : Hid (wrAddE D su false n = 0) := Lib.hid (by rw [HEF.out, if_neg (by simp), if_neg h256, if_neg hfull])
        obtain ⟨k, hk⟩ : ∃ k, k = co % 64 := ⟨_, rfl⟩
        have hk64 : k < 64 := by omega
        have HAT := Lib.hid (fun (z : World) => wrat_any p co z (by omega))
        rw [← hk] at HAT
        have hn63 : n ≤ 140737488355328 := by omega
        have HN256 : Hid (n ≤ 256) := Lib.hid (by omega)
        have HCL := Lib.hid (fun (z : World) (hz : Frm [] w z) => clone_any a n cap d z (hz.bytes' HB.out (by simp)) HN.out HNIL.out hn63)
        have HNF : Hid (¬ (t = 64 ∨ co = 1048576)) := Lib.hid hfull
        have HK := Lib.hid hk
        clear BAD hfull hk
        go_enter Try.func16, Try.ntmps16
        go_wp2
        go_quiet (fail)
        have HNQ : Hid (Frm [] w (w.drewN nq)) := Lib.hid ((Frm.refl _ _).drewN _)
        have b4 : (w.drewN nq).cell? ⟨p, 4, none⟩ = some (.int .u64 (co : Nat)) := c4
        generalize w.drewN nq = wd at HNQ b4 ⊢
        go_wp2_with fail
        (with_reducible refine (HAT.out _).mono ?_)
        rintro e w' ⟨rfl, rfl⟩
        go_wp2_with fail
        (with_reducible refine (HCL.out _ HNQ.out).mono ?_)
        rintro e w1 ⟨a1, c1', rfl, ho, hf⟩
        obtain ⟨dn, hdn⟩ : ∃ dn, dn = d.length := ⟨_, rfl⟩
        rw [← hdn] at ho ⊢
        have hY1 := (HNQ.out.trans hf (U := []) (by simp) (by simp)).whole HY.out (by simp)
        rw [← HCO.out] at hY1
        obtain ⟨v0, hv0⟩ : ∃ v, Y[k * 8]? = some v := ⟨Y[k * 8]'(by have := HL.out; omega), List.getElem?_eq_getElem (by have := HL.out; omega)⟩
        have y0 : w1.cell? ⟨p, 6 + k * 8, none⟩ = some v0 := by rw [hY1.cell, wrC_at]; exact hv0
        have z0 := hY1.free (6 + k * 8)
        obtain ⟨v1, hv1⟩ : ∃ v, Y[k * 8 + 1]? = some v := ⟨Y[k * 8 + 1]'(by have := HL.out; omega), List.getElem?_eq_getElem (by have := HL.out; omega)⟩
        have y1 : w1.cell? ⟨p, 6 + k * 8 + 1, none⟩ = some v1 := by rw [show 6 + k * 8 + 1 = 6 + (k * 8 + 1) from Nat.add_assoc _ _ _, hY1.cell, wrC_at]; exact hv1
        have z1 := hY1.free (6 + k * 8 + 1)
        obtain ⟨v2, hv2⟩ : ∃ v, Y[k * 8 + 2]? = some v := ⟨Y[k * 8 + 2]'(by have := HL.out; omega), List.getElem?_eq_getElem (by have := HL.out; omega)⟩
        have y2 : w1.cell? ⟨p, 6 + k * 8 + 2, none⟩ = some v2 := by rw [show 6 + k * 8 + 2 = 6 + (k * 8 + 2) from Nat.add_assoc _ _ _, hY1.cell, wrC_at]; exact hv2
        have z2 := hY1.free (6 + k * 8 + 2)
        obtain ⟨v3, hv3⟩ : ∃ v, Y[k * 8 + 3]? = some v := ⟨Y[k * 8 + 3]'(by have := HL.out; omega), List.getElem?_eq_getElem (by have := HL.out; omega)⟩
        have y3 : w1.cell? ⟨p, 6 + k * 8 + 3, none⟩ = some v3 := by rw [show 6 + k * 8 + 3 = 6 + (k * 8 + 3) from Nat.add_assoc _ _ _, hY1.cell, wrC_at]; exact hv3
        have z3 := hY1.free (6 + k * 8 + 3)
        obtain ⟨v4, hv4⟩ : ∃ v, Y[k * 8 + 4]? = some v := ⟨Y[k * 8 + 4]'(by have := HL.out; omega), List.getElem?_eq_getElem (by have := HL.out; omega)⟩
        have y4 : w1.cell? ⟨p, 6 + k * 8 + 4, none⟩ = some v4 := by rw [show 6 + k * 8 + 4 = 6 + (k * 8 + 4) from Nat.add_assoc _ _ _, hY1.cell, wrC_at]; exact hv4
        have z4 := hY1.free (6 + k * 8 + 4)
        obtain ⟨v5, hv5⟩ : ∃ v, Y[k * 8 + 5]? = some v := ⟨Y[k * 8 + 5]'(by have := HL.out; omega), List.getElem?_eq_getElem (by have := HL.out; omega)⟩
        have y5 : w1.cell? ⟨p, 6 + k * 8 + 5, none⟩ = some v5 := by rw [show 6 + k * 8 + 5 = 6 + (k * 8 + 5) from Nat.add_assoc _ _ _, hY1.cell, wrC_at]; exact hv5
        have z5 := hY1.free (6 + k * 8 + 5)
        obtain ⟨v6, hv6⟩ : ∃ v, Y[k * 8 + 6]? = some v := ⟨Y[k * 8 + 6]'(by have := HL.out; omega), List.getElem?_eq_getElem (by have := HL.out; omega)⟩
        have y6 : w1.cell? ⟨p, 6 + k * 8 + 6, none⟩ = some v6 := by rw [show 6 + k * 8 + 6 = 6 + (k * 8 + 6) from Nat.add_assoc _ _ _, hY1.cell, wrC_at]; exact hv6
        have z6 := hY1.free (6 + k * 8 + 6)
        obtain ⟨v7, hv7⟩ : ∃ v, Y[k * 8 + 7]? = some v := ⟨Y[k * 8 + 7]'(by have := HL.out; omega), List.getElem?_eq_getElem (by have := HL.out; omega)⟩
        have y7 : w1.cell? ⟨p, 6 + k * 8 + 7, none⟩ = some v7 := by rw [show 6 + k * 8 + 7 = 6 + (k * 8 + 7) from Nat.add_assoc _ _ _, hY1.cell, wrC_at]; exact hv7
        have z7 := hY1.free (6 + k * 8 + 7)
        have HY1 := Lib.hid hY1
        have HO1 := Lib.hid ho
        have HF1 := Lib.hid (HNQ.out.trans hf (U := []) (by simp) (by simp))
        have HDN := Lib.hid hdn
        have HF0 := Lib.hid hf
        clear ho hf hY1 hdn HCL HAT hv0 hv1 hv2 hv3 hv4 hv5 hv6 hv7
        go_upto_region 11 with (fail)
        obtain ⟨w2, hw2⟩ : ∃ w2, w2 = (((((((w1.setCell ⟨p, 6 + k * 8, none⟩ (.slice a1 dn c1')).setCell ⟨p, 6 + k * 8 + 1, none⟩ (.bool false)).setCell ⟨p, 6 + k * 8 + 2, none⟩ (.bool false)).setCell ⟨p, 6 + k * 8 + 3, none⟩ (.bool false)).setCell ⟨p, 6 + k * 8 + 4, none⟩ (.bool false)).setCell ⟨p, 6 + k * 8 + 5, none⟩ (.bool false)).setCell ⟨p, 6 + k * 8 + 6, none⟩ (.bool false)).setCell ⟨p, 6 + k * 8 + 7, none⟩ (.bool false) := ⟨_, rfl⟩
        rw [← hw2]
        have hY2 := HY1.out.setE (k := k) (v := .slice a1 dn c1')
        rw [← hw2] at hY2
        have hf2 : Frm [p] w1 w2 := by
          rw [hw2]
          exact ((((((((Frm.refl _ _).setCell (.inl (by simp)) _).setCell (.inl (by simp)) _).setCell (.inl (by simp)) _).setCell (.inl (by simp)) _).setCell (.inl (by simp)) _).setCell (.inl (by simp)) _).setCell (.inl (by simp)) _).setCell (.inl (by simp)) _
        have x4 := (hY2.cell 4).trans (wrC_head _ _ _ _ _ _ _).2.2.2.2.1
        have f4 := hY2.free 4
        obtain ⟨m, hm⟩ : ∃ m, m = co + 1 := ⟨_, rfl⟩
        have hwm : IntKind.u64.wrap ((co : Int) + 1) = (m : Int) := by simp [IntKind.wrap, IntKind.bits, IntKind.signed]; omega
        have hY3 := hY2.put 4 (.int .u64 (m : Nat))
        rw [wrC_co] at hY3
        have hf3 : Frm [p] w1 (w2.setCell ⟨p, 4, none⟩ (.int .u64 (m : Nat))) := hf2.setCell (.inl (by simp)) _
        have HGO : Hid (Q (.returned (.tuple #[.int .u64 (co : Nat), .int .i64 0])) (w2.setCell ⟨p, 4, none⟩ (.int .u64 (m : Nat)))) := Lib.hid (by
          have hpw := H0.out.lt
          have hsz : w.heap.size ≤ wd.heap.size := HNQ.out.size
          have ho := HO1.out
          have h8 := HB.out.1
          have hdn := HDN.out
          have hob := bytes_of_own (hdn ▸ ho) h8
          have hnew : ∀ x, a1 = some x → wd.heap.size ≤ x.block := fun x hx => (ho.lt x.block (by rw [hx]; rfl)).1
          have hb3 : Bytes (w2.setCell ⟨p, 4, none⟩ (.int .u64 (m : Nat))) a1 d := hf3.bytes' hob.2.1 (fun _ x hx hm => by simp at hm; have := hnew x hx; omega)
          have hlen : (D ++ [d]).length = m := by rw [List.length_append, ← HCO.out, hm]; rfl
          have hfw : Frm [p] w (w2.setCell ⟨p, 4, none⟩ (.int .u64 (m : Nat))) := HF1.out.trans hf3 (by simp) (fun x hx => .inl hx)
          rw [HQ.out]
          refine ⟨hfw, .inr ⟨by rw [← HN.out]; exact HX.out, by rw [HCO.out], ⟨setE Y k (.slice a1 dn c1'), by rw [hlen]; exact hY3, by rw [setE_len]; exact HL.out, fun n' h1 h2 => ?_⟩, H0.out.quo, ?_, fun y hy => ?_, H0.out.hp, H0.out.out⟩⟩
          · rw [hlen] at h2
            by_cases hn' : n' = co
            · have e1 : (D ++ [d]).getD n' [] = d := by rw [hn', HCO.out]; simp
              have e2 : hasNew H D.length n' = fun _ => false := by unfold hasNew; rw [if_pos (by rw [hn', HCO.out])]
              rw [e1, e2, hn', ← HK.out, hdn]
              exact WrE.new HL.out hk64 hb3 (fun hne x hx hm' => by
                have h3 := hnew x hx
                rcases List.mem_cons.1 hm' with h4 | h4
                · omega
                · have := HFL.out _ h4; omega) hob.2.2
            · have hlt : n' < D.length := by rw [← HCO.out]; omega
              have e1 : (D ++ [d]).getD n' [] = D.getD n' [] := by simp [List.getD, List.getElem?_append, hlt]
              have e2 : hasNew H D.length n' = H n' := by unfold hasNew; rw [if_neg (by rw [← HCO.out]; exact hn')]
              rw [e1, e2]
              refine ((HE.out n' h1 hlt).keep (F' := p :: F) hfw (fun x hx => .inl (by simp at hx; simp [hx])) (fun x hx => .inl hx)).other HL.out (by omega) ?_
              have := HT.out; have := HK.out; have h5 := HNF.out; omega
          · rw [hlen]
            have := HT.out; have h5 := HNF.out; omega
          · rcases List.mem_append.1 hy with h4 | h4
            · exact H0.out.small y h4
            · simp at h4; subst h4; have := HN256.out; have := HN.out; omega)
        clear hw2 hY2 hf2 hm hY3 hf3 y0 y1 y2 y3 y4 y5 y6 y7 z0 z1 z2 z3 z4 z5 z6 z7
        go_wp2
        exact HGO.out
end Go.Proofs.Ytecfoomjpjcldaa
