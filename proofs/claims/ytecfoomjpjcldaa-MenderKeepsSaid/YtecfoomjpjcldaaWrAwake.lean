/- Contract of Awake (the fixed fact of layer 11). -/
import Derived.Test.YtecfoomjpjcldaaWrAck
import Derived.Test.YtecfoomjpjcldaaStr
import Derived.Lib.SlBytesConst
import Derived.Below
namespace Go.Proofs.Ytecfoomjpjcldaa
open Go.RowKit
set_option maxRecDepth 100000
theorem itemsN_len (D : List (List Nat)) (su s : Nat) : (itemsN D su s).length = s - su := by simp [itemsN]
theorem its_lengthW (X : List Ix) : (its X).length = X.length := by simp [its]
/-- A writer as New makes it. -/
theorem Wq.made {w w' : World} {b : Nat} {P W A : Nat} {F : List Nat} (_hf : Frm [] w w') (hb : w.heap.size ≤ b) (hW : Whole w' b 98 (wrC P W A 0 0 false wrRow0)) (hq : 1 ≤ A ∧ A ≤ W ∧ W ≤ P ∧ P ≤ 7) (hF : ∀ x ∈ F, x < w.heap.size) : Wq w' w.heap.size b F P W A [] (fun _ _ => false) 0 false :=
  ⟨⟨wrRow0, hW, by kernel_rfl, fun n _ h => absurd h (by simp)⟩, hq, ⟨Nat.le_refl _, by simp, by simp⟩, by simp, hb, fun hm => by have := hF b hm; omega⟩
/-- Ack, where one knows up to where it goes. -/
theorem wrack_to {w : World} {B p : Nat} {F : List Nat} {P W A : Nat} {D : List (List Nat)} {H : Nat → Nat → Bool} {su : Nat} {cl : Bool} (pl n s0 : Nat) (h : Wq w B p F P W A D H su cl) (hn : n < 18446744073709551616) (hin : hasI (setN P W n) (pl : Int) = true) (h1 : su ≤ n) (h2 : n < D.length) (hs1 : su ≤ s0) (hs2 : s0 ≤ D.length) (hok : ∀ i, su ≤ i → i < s0 → okN P W A (hasAdd H n pl) i = true) (hno : s0 < D.length → okN P W A (hasAdd H n pl) s0 = false) :
    Calls Try.prog 17 #[.pointer (some ⟨p, 0, none⟩), .int .i64 (pl : Int), .int .u64 (n : Nat)] w fun e w' => ∃ a c X, e = .returned (.slice a X.length c) ∧ its X = itemsN D su s0 ∧ IL w' [] a X ∧ Wq w' B p F P W A D (hasAdd H n pl) s0 cl ∧ Frm [p] w w' := by
  refine (wrack_any (pl : Int) n h hn).mono ?_
  rintro e w' (⟨hb, _⟩ | ⟨_, _, _, pn, hp, _, s, a, c, X, he, hs3, hs4, hits, hall, hend, hil, hq, hf⟩)
  · rcases hb with hb | hb | hb
    · omega
    · omega
    · rw [hin] at hb; cases hb
  · obtain rfl : pn = pl := by omega
    have hss : s = s0 := by
      rcases Nat.lt_trichotomy s s0 with h3 | h3 | h3
      · have h4 := hok s hs3 h3
        rw [hend (by omega)] at h4; cases h4
      · exact h3
      · have h4 := hall s0 hs1 h3
        rw [hno (by omega)] at h4; cases h4
    subst hss
    exact ⟨a, c, X, he, hits, hil, hq, hf⟩
theorem u8_at11 (w : World) (x : Nat) (hx : x < 256) (t : TypeId) (m : Nat × Nat) : Bytes (w.alloc (.cells #[.int .u8 x] t m)) (some ⟨w.heap.size, 0, none⟩) [x] := by
  refine ⟨by simp [hx], by simp, .inr ⟨_, _, rfl, fun i hi => ?_⟩⟩
  rw [cell_of_row _ w.heap.size _ #[.int .u8 (x : Int)] t m (heap_alloc_new w _)]
  simp at hi
  subst hi
  simp
theorem str_y11 : strOf [121] = ⟨#[121]⟩ := by decide
def aw0 : Nat → Nat → Bool := fun _ _ => false
def aw1 := hasNew aw0 0
def aw2 := hasNew aw1 1
def aw3 := hasAdd aw2 1 1
def aw4 := hasAdd aw3 1 2
def aw5 := hasAdd aw4 0 0
def aw6 := hasAdd aw5 0 1
set_option maxHeartbeats 8000000 in
theorem awake11_any (w : World) : Calls Try.prog 10 #[] w fun e w' => e = .returned (.bool true) ∧ Frm [] w w' := by
  have kc := fun (w : World) (C : Array Value) (n c : Nat) => Lib.run_convert_bytes_const (P := Try.prog) w 38 5 C n c Try.underlying38 Try.underlying5
  have HNW := wrnew_ok 3 2 2 w rfl
  unfold quV at HNW
  have HNW := Lib.hid HNW
  go_enter Try.func10, Try.ntmps10
  go_wp2_with fail
  (with_reducible refine HNW.out.mono ?_)
  rintro e w1 ⟨p, rfl, hf1, hp, hW⟩
  have hq1 := Wq.made (P := 3) (W := 2) (A := 2) (F := []) hf1 hp hW (by decide) (by simp)
  have HF1 := Lib.hid hf1
  have hfa : Frm [] w1 (w1.alloc (.cells #[.int .u8 120] 5 (1, 2))) := (Frm.refl _ _).alloc _
  have HA := Lib.hid (wradd_any (some ⟨w1.heap.size, 0, none⟩) 1 1 [120] (hq1.here hfa) (by simp) (u8_at11 w1 120 (by omega) _ _) rfl (by simp))
  have HPW := Lib.hid hp
  clear hf1 hp hW hq1 HNW hfa
  go_wp2_with fail
  (with_reducible refine HA.out.mono ?_)
  rintro e w2 ⟨hf2, (⟨hb, _⟩ | ⟨_, rfl, hq2⟩)⟩
  · exact absurd (show wrAddE [] 0 false [120].length = 0 from rfl) hb
  have HF2 : Hid (Frm [] w w2) := Lib.hid ((HF1.out.trans ((Frm.refl [] w1).alloc _) (U := []) (by simp) (by simp)).trans hf2 (by simp) (fun x hx => .inr (by simp at hx; subst hx; exact HPW.out)))
  have hfa : Frm [] w2 (w2.alloc (.cells #[.int .u8 121] 5 (1, 2))) := (Frm.refl _ _).alloc _
  have HA2 := Lib.hid (wradd_any (some ⟨w2.heap.size, 0, none⟩) 1 1 [121] (hq2.here hfa) (by simp) (u8_at11 w2 121 (by omega) _ _) rfl (by simp))
  clear hf2 hq2 HA hfa
  go_wp2_with fail
  (with_reducible refine HA2.out.mono ?_)
  rintro e w3 ⟨hf3, (⟨hb, _⟩ | ⟨_, rfl, hq3⟩)⟩
  · exact absurd (show wrAddE ([] ++ [[120]]) 0 false [121].length = 0 from rfl) hb
  have HF3 : Hid (Frm [] w w3) := Lib.hid ((HF2.out.trans ((Frm.refl [] w2).alloc _) (U := []) (by simp) (by simp)).trans hf3 (by simp) (fun x hx => .inr (by simp at hx; subst hx; exact HPW.out)))
  have hq3' : Wq w3 w.heap.size p [] 3 2 2 [[120], [121]] aw2 0 false := hq3
  have HK1 := wrack_to 1 1 0 hq3' (by decide) (by decide) (by decide) (by decide) (by decide) (by decide) (fun i h1 h2 => absurd h2 (by omega)) (fun _ => by decide)
  rw [show ((1 : Nat) : Int) = 1 from rfl] at HK1
  have HK1 := Lib.hid HK1
  clear hf3 hq3 hq3' HA2
  go_wp2_with fail
  (with_reducible refine HK1.out.mono ?_)
  rintro e w4 ⟨a4, c4, X4, rfl, hi4, _, hq4, hf4⟩
  have hx4 : X4.length = 0 := by rw [← its_lengthW, hi4, itemsN_len]
  rw [hx4]
  have HF4 : Hid (Frm [] w w4) := Lib.hid (HF3.out.trans hf4 (by simp) (fun x hx => .inr (by simp at hx; subst hx; exact HPW.out)))
  have hq4' : Wq w4 w.heap.size p [] 3 2 2 [[120], [121]] aw3 0 false := hq4
  have HK2 := wrack_to 2 1 0 hq4' (by decide) (by decide) (by decide) (by decide) (by decide) (by decide) (fun i h1 h2 => absurd h2 (by omega)) (fun _ => by decide)
  rw [show ((1 : Nat) : Int) = 1 from rfl, show ((2 : Nat) : Int) = 2 from rfl] at HK2
  have HK2 := Lib.hid HK2
  clear hi4 hq4 hq4' hf4 hx4 HK1
  go_wp2_with fail
  (with_reducible refine HK2.out.mono ?_)
  rintro e w5 ⟨a5, c5, X5, rfl, hi5, _, hq5, hf5⟩
  have hx5 : X5.length = 0 := by rw [← its_lengthW, hi5, itemsN_len]
  rw [hx5]
  have HF5 : Hid (Frm [] w w5) := Lib.hid (HF4.out.trans hf5 (by simp) (fun x hx => .inr (by simp at hx; subst hx; exact HPW.out)))
  have hq5' : Wq w5 w.heap.size p [] 3 2 2 [[120], [121]] aw4 0 false := hq5
  have HK3 := wrack_to 0 0 0 hq5' (by decide) (by decide) (by decide) (by decide) (by decide) (by decide) (fun i h1 h2 => absurd h2 (by omega)) (fun _ => by decide)
  rw [show ((0 : Nat) : Int) = 0 from rfl] at HK3
  have HK3 := Lib.hid HK3
  clear hi5 hq5 hq5' hf5 hx5 HK2
  go_wp2_with fail
  (with_reducible refine HK3.out.mono ?_)
  rintro e w6 ⟨a6, c6, X6, rfl, hi6, _, hq6, hf6⟩
  have hx6 : X6.length = 0 := by rw [← its_lengthW, hi6, itemsN_len]
  rw [hx6]
  have HF6 : Hid (Frm [] w w6) := Lib.hid (HF5.out.trans hf6 (by simp) (fun x hx => .inr (by simp at hx; subst hx; exact HPW.out)))
  have hq6' : Wq w6 w.heap.size p [] 3 2 2 [[120], [121]] aw5 0 false := hq6
  have HK4 := wrack_to 1 0 2 hq6' (by decide) (by decide) (by decide) (by decide) (by decide) (by decide) (fun i h1 h2 => by
    have : i = 0 ∨ i = 1 := by omega
    rcases this with rfl | rfl <;> decide) (fun h => absurd h (by decide))
  rw [show ((0 : Nat) : Int) = 0 from rfl, show ((1 : Nat) : Int) = 1 from rfl] at HK4
  have HK4 := Lib.hid HK4
  clear hi6 hq6 hq6' hf6 hx6 HK3
  go_wp2_with fail
  (with_reducible refine HK4.out.mono ?_)
  rintro e w7 ⟨a7, c7, X7, rfl, hi7, hil7, hq7, hf7⟩
  have hx7 : X7.length = 2 := by rw [← its_lengthW, hi7, itemsN_len]
  rw [hx7]
  have HF7 : Hid (Frm [] w w7) := Lib.hid (HF6.out.trans hf7 (by simp) (fun x hx => .inr (by simp at hx; subst hx; exact HPW.out)))
  obtain ⟨b, off, rfl, p0, p1, okx⟩ := hil7.at (i := 1) (by omega)
  have ht : (X7.getD 1 default).t = (1, [121]) := by
    have h1 : (its X7)[1]? = some (1, [121]) := by rw [hi7]; rfl
    simp [its] at h1
    obtain ⟨x, hx, he⟩ := h1
    simp [List.getD, hx, he]
  have hby := okx.bytes
  rw [ht] at p1 hby
  simp only at p1 hby
  have v1 : ∀ z d, (convert 38 9 (.slice (X7.getD 1 default).a 1 (X7.getD 1 default).c)).run Try.prog (w7.drewN d) = .ok (.string ⟨#[121]⟩) (w7.drewN d) ∨ z := fun z d => .inl (by
    rw [← str_y11]; exact run_to_string (P := Try.prog) (e := 5) Try.underlying38 Try.underlying5 Try.underlying9 (((Frm.refl [] w7).drewN d).bytes hby (by simp)) rfl)
  have v2 := (v1 False 0).resolve_right (fun h => h)
  rw [show w7.drewN 0 = w7 from rfl] at v2
  generalize (X7.getD 1 default).a = xa at p1 v2
  generalize (X7.getD 1 default).c = xc at p1 v2
  clear hi7 hq7 hf7 hx7 HK4 hil7 p0 okx ht hby v1
  go_wp2
  go_ret
  exact ⟨rfl, HF7.out⟩
end Go.Proofs.Ytecfoomjpjcldaa
