/- (For PackReads' own seat.) Contract of Awake (the fixed facts of layer 2): it answers true and writes nothing that was there. -/
import Derived.Test.YtpamiglinmfgkaaDoorPkRead
import Derived.Test.YtpamiglinmfgkaaDoorStr
namespace Go.Proofs.YtpamiglinmfgkaaDoor
open Go.RowKit

theorem one_byte (w : World) (y : Nat) (t : TypeId) : Bytes (w.alloc (.cells #[.int .u8 ((y : Int) % 256)] t)) (some ⟨w.heap.size, 0, none⟩) [y % 256] := by
  refine ⟨fun c hc => by simp at hc; omega, by simp, .inr ⟨_, _, rfl, fun i hi => ?_⟩⟩
  simp at hi
  subst hi
  rw [(Whole.made w t _).cell]
  rfl

theorem awake2_by (w1 : World) (rb cb db : Nat) (w : World) (h : Told w w1 rb cb db [1]) :
    Calls Tryd.prog 14 (#[.pointer (some ⟨rb, 0, none⟩)] ++ #[]) w1 (ByThrow w w1 rb cb 4 (fun w2 => Frm [] w w2)) := by
  have H := Lib.hid h; clear h
  show Calls Tryd.prog 14 #[.pointer (some ⟨rb, 0, none⟩)] w1 _
  go_enter Tryd.func14, Tryd.ntmps14
  go_wp2_with fail
  refine (ru16_short H.out.rdr (by decide)).mono ?_
  rintro e w' ⟨rfl, h1, h2⟩
  have h := H.out
  refine ⟨rfl, rfl, [rb, cb], h.frm.trans h2 (by simp) ?_, h1, h2, ?_⟩
  · intro x hx
    simp at hx
    rcases hx with rfl | rfl
    · exact .inr h.hr
    · exact .inr h.hc
  · intro x hx
    simp at hx
    rcases hx with rfl | rfl
    · exact .inl rfl
    · exact .inr (.inl rfl)

theorem enters_awake (args : Array Value) (w : World) : (callFunc 14 args).run Tryd.prog w = .ok (.enter 14 args) w := by kernel_rfl
/-- A Writer that was just made. -/
theorem Wr.zero (w : World) : Wr (w.alloc (.cells #[.pointer none, .int .i64 0] 39)) w.heap.size w.heap.size [w.heap.size] [] :=
  ⟨by simp, Nat.le_refl _, .inl ⟨rfl, rfl, Whole.made _ _ _⟩⟩
theorem awake_bytes : ([] ++ be 2 258) ++ (be 4 (ByteArray.mk #[97]).size ++ strL ⟨#[97]⟩) = [1, 2, 0, 0, 0, 1, 97] := by decide
theorem awake_str : strOf [1, 2, 0, 0, 0, 1, 97] = ⟨#[1, 2, 0, 0, 0, 1, 97]⟩ := by decide

set_option maxHeartbeats 2000000 in
theorem awake2_any (w : World) :
    Calls Tryd.prog 4 #[] w fun e w' => e = .returned (.bool true) ∧ Below w.heap.size w w' := by
  go_enter Tryd.func4, Tryd.ntmps4
  go_wp2_with fail
  refine (u16_any 258 (Wr.zero w) (by omega) (by simp)).mono ?_
  rintro e w1 ⟨rfl, F1, hw1, hf1, hx1⟩
  have HW1 := Lib.hid hw1; clear hw1
  have hF1 : Frm [w.heap.size] w w1 := ((Frm.refl [] w).alloc _).trans hf1 (by simp) (fun x hx => .inl hx)
  have HF1 := Lib.hid hF1; clear hF1 hf1
  have HX1 := Lib.hid hx1; clear hx1
  go_wp2_with fail
  refine (text_any _ HW1.out (by decide) (by decide)).mono ?_
  rintro e w2 ⟨rfl, F2, hw2, hf2, hx2⟩
  rw [awake_bytes] at hw2
  have HW2 := Lib.hid hw2; clear hw2
  have hB2 : Below w.heap.size w w2 := (HF1.out.below (by simp) (Nat.le_refl _)).trans (hf2.below (fun x hx => (HW1.out.lt x hx).1) HF1.out.size)
  have HB2 := Lib.hid hB2; clear hB2 hf2
  clear hx2
  go_wp2_with fail
  have hb3 : Bytes (w2.alloc (.cells #[.int .u8 1] 5)) (some ⟨w2.heap.size, 0, none⟩) [1] := one_byte w2 1 5
  have HB3 := Lib.hid hb3; clear hb3
  refine (read_throw 14 #[] _ _ _ [1] _ (fun w3 => Frm [] (w2.alloc (.cells #[.int .u8 1] 5)) w3) 4 HB3.out rfl (by simp) (by simp) enters_awake (fun w1 rb cb db h => awake2_by w1 rb cb db _ h)).mono ?_
  rintro e w4 ⟨w3, c, T, rfl, ⟨hf3, rfl⟩, hf4, hT⟩
  have hF4 : Frm [] w2 w4 := ((Frm.refl [] w2).alloc _ |>.trans hf3 (U := []) (by simp) (by simp)).trans hf4 (by simp) (fun x hx => .inr (by have := hT x hx; simp at this; omega))
  have HF4 := Lib.hid hF4; clear hF4 hf3 hf4 hT
  go_wp2_with fail
  refine (done_any (HW2.out.keep HF4.out (by simp)) (by decide)).mono ?_
  rintro e w5 ⟨a5, cap5, rfl, ho5, hf5⟩
  have hb5 := own_bytes ho5 (by decide)
  have hcv := run_to_string (P := Tryd.prog) (src := 22) (dst := 9) (e := 5) Tryd.underlying22 Tryd.underlying5 Tryd.underlying9 (n := 7) (c := cap5) hb5.1 rfl
  rw [awake_str] at hcv
  have HB5 : Hid (Below w.heap.size w w5) := (HB2.out.trans (HF4.out.below (by simp) HB2.out.size)).trans (hf5.below (by simp) (Nat.le_trans HB2.out.size HF4.out.size))
  clear ho5 hf5 hb5
  go_wp2
  go_ret
  exact ⟨rfl, HB5.out⟩
end Go.Proofs.YtpamiglinmfgkaaDoor
