/- Contract of the document's BookOf. -/
import Derived.Test.YtomgiockelhfiaaGreatMX
namespace Go.Proofs.YtomgiockelhfiaaGreat
open Go.RowKit

/-- What BookOf answers. -/
def OfEnd (w : World) (F : List Nat) (last : Nat) (L : List Sn) (e : Ending) (w' : World) : Prop :=
  (RightS last L ∧ ∃ r a c, e = .returned (.tuple #[.pointer (some ⟨r, 0, none⟩), .bool true]) ∧ Rb w' w.heap.size r F a c last L ∧ Frm [] w w') ∨
  (¬ RightS last L ∧ e = .returned (.tuple #[.pointer none, .bool false]) ∧ Frm [] w w')

set_option maxRecDepth 100000 in
set_option maxHeartbeats 8000000 in
theorem bookOf_any {w : World} {a : Option Addr} {n cap last : Nat} {L : List Sn} {F : List Nat} (h : SL w [] a L) (hnil : a = none → cap = 0) (hn : n = L.length) (hsz : n < 4611686018427387904) (hl : last < 18446744073709551616) (hF : ∀ x ∈ F, x < w.heap.size) :
    Calls Tryz.prog 142 #[.int .u64 (last : Nat), .slice a n cap] w (OfEnd w F last L) := by
  by_cases h16 : n ≤ 16
  · have HN := Lib.hid hn; clear hn
    have H := Lib.hid h; clear h
    have HNIL := Lib.hid hnil; clear hnil
    have HFF := Lib.hid hF; clear hF
    have HL := Lib.hid hl; clear hl
    have hg16 : ¬ (16 : Int) < (n : Int) := by omega
    go_enter Tryz.func142, Tryz.ntmps142
    go_wp2
    go_loopw [6] (fun s6 wr => ∃ k : Nat, k ≤ n ∧ s6 = .int .i64 k ∧ Hid (RightTo last L k) ∧ Hid (Frm [] w wr)) (fun s6 _ => n - (intOf s6).toNat)
    case atStart => exact ⟨0, Nat.zero_le _, rfl, fun t ht => absurd ht (Nat.not_lt_zero _), Lib.hid (Frm.refl _ _)⟩
    case round =>
      obtain ⟨k, hk, rfl, HI, HF⟩ := hrel
      by_cases hlt : k < n
      · have hsl := H.out.keep (F' := []) HF.out (by simp) (by simp)
        have HSL := Lib.hid hsl
        obtain ⟨b, off, rfl, p0, p1, p2, _⟩ := hsl.at (i := k) (by have := HN.out; omega)
        obtain ⟨x, hx⟩ : ∃ x, x = L.getD k default := ⟨_, rfl⟩
        have HCI : Hid (CondS last L k ↔ 0 < x.id ∧ x.id ≤ last ∧ 1 ≤ x.life ∧ x.life ≤ 1099511627776 ∧ (0 < k → (L.getD (k - 1) default).id < x.id)) := Lib.hid (by rw [hx]; exact Iff.rfl)
        rw [← hx] at p0 p1 p2
        have NO : Hid (¬ CondS last L k → ¬ RightS last L) := fun hc hr => hc (hr.2 k (by have := HN.out; omega))
        obtain ⟨i, en, li⟩ := x
        simp only at p0 p1 p2 HCI
        clear hx hsl
        by_cases h1 : i = 0
        · have hno := NO.out (fun hc => by have := (HCI.out.1 hc).1; omega)
          have HNO := Lib.hid hno
          subst h1
          clear hno
          go_wp2
          go_ret2
          exact .inr ⟨HNO.out, rfl, HF.out⟩
        · have d1 : ((i : Int) == 0) = false := by rw [beq_eq_false_iff_ne]; omega
          by_cases h2 : i ≤ last
          · have d2 : decide (last < i) = false := decide_eq_false (by omega)
            by_cases h3 : li = 0
            · have hno := NO.out (fun hc => by have := (HCI.out.1 hc).2.2.1; omega)
              have HNO := Lib.hid hno
              subst h3
              clear hno
              go_wp2
              go_ret2
              exact .inr ⟨HNO.out, rfl, HF.out⟩
            · have d3 : ((li : Int) == 0) = false := by rw [beq_eq_false_iff_ne]; omega
              by_cases h4 : li ≤ 1099511627776
              · have d4 : decide ((1099511627776 : Int) < (li : Int)) = false := decide_eq_false (by omega)
                rcases Nat.eq_zero_or_pos k with hk0 | hk0
                · have HI2 : Hid (RightTo last L (k + 1)) := HI.out.next (HCI.out.2 ⟨by omega, h2, by omega, h4, fun h => by omega⟩)
                  have k1 : decide (0 < k) = false := decide_eq_false (by omega)
                  have k2 : decide ((0 : Int) < (k : Int)) = false := decide_eq_false (by omega)
                  clear hk0 h1 h2 h3 h4
                  go_wp2
                  go_quiet (fail)
                  go_wp2
                  go_roundw
                  case rel => exact ⟨k + 1, by omega, by go_num, HI2, Lib.hid (by repeat (first | exact HF.out | apply Frm.drewN))⟩
                  case measure => simp [intOf]; omega
                · obtain ⟨j, rfl⟩ : ∃ j, k = j + 1 := ⟨k - 1, by omega⟩
                  obtain ⟨b', off', he, q0, _, _, _⟩ := HSL.out.at (i := j) (by have := HN.out; omega)
                  cases he
                  have HJ : Hid (L.getD (j + 1 - 1) default = L.getD j default) := Lib.hid (by rw [show j + 1 - 1 = j by omega])
                  obtain ⟨z, hz⟩ : ∃ z, z = (L.getD j default).id := ⟨_, rfl⟩
                  rw [← hz] at q0
                  rw [HJ.out, ← hz] at HCI
                  have e0 : (((j + 1 : Nat) : Int) - 1) = (j : Int) := by omega
                  have hj1 : (j : Int) < (n : Int) := by omega
                  clear hz hk0
                  by_cases h5 : z < i
                  · have d5 : decide (i ≤ z) = false := decide_eq_false (by omega)
                    have HI2 : Hid (RightTo last L (j + 1 + 1)) := HI.out.next (HCI.out.2 ⟨by omega, h2, by omega, h4, fun _ => h5⟩)
                    clear h1 h2 h3 h4 h5
                    go_wp2
                    go_quiet (fail)
                    go_wp2
                    go_roundw
                    case rel => exact ⟨j + 1 + 1, by omega, by go_num, HI2, Lib.hid (by repeat (first | exact HF.out | apply Frm.drewN))⟩
                    case measure => simp [intOf]; omega
                  · have d5 : decide (i ≤ z) = true := decide_eq_true (by omega)
                    have hno := NO.out (fun hc => h5 ((HCI.out.1 hc).2.2.2.2 (by omega)))
                    have HNO := Lib.hid hno
                    clear hno h1 h2 h3 h4 h5
                    go_wp2
                    go_quiet (fail)
                    go_wp2
                    go_ret2
                    exact .inr ⟨HNO.out, rfl, by repeat (first | exact HF.out | apply Frm.drewN)⟩
              · have d4 : decide ((1099511627776 : Int) < (li : Int)) = true := decide_eq_true (by omega)
                have hno := NO.out (fun hc => h4 (HCI.out.1 hc).2.2.2.1)
                have HNO := Lib.hid hno
                clear hno h1 h2 h3 h4
                go_wp2
                go_ret2
                exact .inr ⟨HNO.out, rfl, HF.out⟩
          · have d2 : decide (last < i) = true := decide_eq_true (by omega)
            have hno := NO.out (fun hc => h2 (HCI.out.1 hc).2.1)
            have HNO := Lib.hid hno
            clear hno h1 h2
            go_wp2
            go_ret2
            exact .inr ⟨HNO.out, rfl, HF.out⟩
      · obtain rfl : k = n := by omega
        have HY : Hid (RightS last L) := Lib.hid ⟨by rw [← HN.out]; exact h16, fun i hi => HI.out i (by rw [HN.out]; exact hi)⟩
        obtain ⟨i0, hi, hz0, hz1, hz2⟩ := info_parts Tryz.info132
        have HI0 := Lib.hid hi; clear hi
        have HZ0 := Lib.hid hz0; clear hz0
        have HZ1 := Lib.hid hz1; clear hz1
        have HZ2 := Lib.hid hz2; clear hz2
        have hsl := H.out.keep (F' := []) HF.out (by simp) (by simp)
        have HLX : Hid ((snc L).length = k * 3) := Lib.hid (by rw [snc_length, HN.out])
        have HLIT : Hid (SOwn (wr.alloc (.cells #[] 132)) w.heap.size 132 F (some ⟨wr.heap.size, 0, none⟩) 0 []) := Lib.hid ⟨World.ownsRow_lit wr #[] 0 HF.out.size (by unfold maxLen; omega) rfl, by simp, fun g hg hm => by simp at hg; subst hg; have h1 := HFF.out _ hm; have := HF.out.size; omega⟩
        have HV := Lib.hid (hsl.vals.keep ((Frm.refl [] wr).alloc (.cells #[] 132)) (by simp))
        have HFT := Lib.hid hsl.fits
        have hfit1 : 0 + k ≤ 1000000000 := by omega
        clear hsl
        go_wp2_with (at_builtin; refine wpList_appS (by rfl) (.tmp 64) (.tmp 65) 42 rfl w.heap.size 132 i0 (.agg #[.int .u64 0, .int .u64 0, .int .u64 0]) 3 24 Tryz.underlying42 HI0.out HZ0.out rfl (by decide) HZ1.out HZ2.out (by decide) (.slice (some ⟨wr.heap.size, 0, none⟩) 0 0) 0 _ rfl HLIT.out.own _ k cap _ rfl HV.out HLX.out (snc_one _) HNIL.out hfit1 (by have := HF.out.size; simp; omega) ?_)
        intro a3 c3 w3 happ
        have g3 := HLIT.out.app (X := []) rfl HFT.out HN.out (fun x hx => by have h1 := HFF.out _ hx; have := HF.out.size; simp; omega) happ
        have hf3 : Frm [] w w3 := frm_lit3 HF.out happ
        have ho3 := g3.1
        rw [List.nil_append] at ho3
        have hbook := Whole.made w3 44 #[.int .u64 (last : Nat), .slice a3 k c3]
        have hfb : Frm [] w3 (w3.alloc (.cells #[.int .u64 (last : Nat), .slice a3 k c3] 44)) := (Frm.refl _ _).alloc _
        have hrow := ho3.keep (F' := w3.heap.size :: F) hfb (by simp) (fun x hx => by
          rcases List.mem_cons.1 hx with h1 | h1
          · exact .inr (by omega)
          · exact .inl h1)
        have hrb : Rb (w3.alloc (.cells #[.int .u64 (last : Nat), .slice a3 k c3] 44)) w.heap.size w3.heap.size F a3 c3 last L :=
          ⟨by rw [← HN.out]; exact hbook, hrow, hf3.size, fun hm => by have h1 := HFF.out _ hm; have := hf3.size; omega, by rw [← HN.out]; exact h16, HL.out⟩
        have HRB := Lib.hid hrb
        have HFE : Hid (Frm [] w (w3.alloc (.cells #[.int .u64 (last : Nat), .slice a3 k c3] 44))) := Lib.hid (hf3.alloc _)
        clear happ g3 hf3 ho3 hbook hfb hrow hrb
        go_wp2
        go_ret2
        exact .inl ⟨HY.out, w3.heap.size, a3, c3, rfl, HRB.out, HFE.out⟩
  · have HNO : Hid (¬ RightS last L) := Lib.hid (fun hr => h16 (by rw [hn]; exact hr.1))
    have hg16 : (16 : Int) < (n : Int) := by omega
    clear h hn
    go_enter Tryz.func142, Tryz.ntmps142
    go_wp2
    go_ret2
    exact .inr ⟨HNO.out, rfl, Frm.refl _ _⟩
end Go.Proofs.YtomgiockelhfiaaGreat
