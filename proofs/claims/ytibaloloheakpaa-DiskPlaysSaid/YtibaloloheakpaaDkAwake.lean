/- Contract of Awake (the fixed fact of layer 4): it answers true and writes nothing that was there. -/
import Derived.Test.YtibaloloheakpaaDkNil
import Derived.Lib.SlBytesConst
namespace Go.Proofs.Ytibaloloheakpaa
open Go.RowKit

theorem two_u8 (w : World) (x y : Nat) (hx : x < 256) (hy : y < 256) (t : TypeId) (m : Nat × Nat) : Bytes (w.alloc (.cells #[.int .u8 x, .int .u8 y] t m)) (some ⟨w.heap.size, 0, none⟩) [x, y] := by
  refine ⟨by simp [hx, hy], by simp, .inr ⟨_, _, rfl, fun i hi => ?_⟩⟩
  rw [cell_of_row _ w.heap.size _ #[.int .u8 (x : Int), .int .u8 (y : Int)] t m (heap_alloc_new w _)]
  simp at hi
  match i, hi with
  | 0, _ | 1, _ => simp
theorem crashed_awake : crashed [97, 98, 99, 100] 2 1 0 = [97, 98, 98] := by decide
theorem str_awake : strOf [97, 98, 98] = ⟨#[97, 98, 98]⟩ := by decide
/-- From w on only new blocks: the frame of a disk that was made behind w. -/
theorem Frm.dk {w w1 w2 : World} {B p : Nat} {F l : List Nat} {s room : Nat} (h : Frm [] w w1) (hB : w.heap.size ≤ B) (hd : Dk w1 B p F l s room) (hf : Frm F w1 w2) : Frm [] w w2 :=
  h.trans hf (by simp) (fun x hx => .inr (Nat.le_trans hB (hd.lt x hx).1))
theorem Frm.new {w w1 : World} (h : Frm [] w w1) : Below w.heap.size w w1 := h.below (by simp) (Nat.le_refl _)

set_option maxHeartbeats 2000000 in
theorem awake4_any (w : World) :
    Calls Try.prog 7 #[] w fun e w' => e = .returned (.bool true) ∧ Below w.heap.size w w' := by
  have kc := fun (w : World) (C : Array Value) (n c : Nat) => Lib.run_convert_bytes_const (P := Try.prog) w 29 5 C n c Try.underlying29 Try.underlying5
  go_enter Try.func7, Try.ntmps7
  go_wp2_with fail
  refine (new_ok 9 w (by omega)).mono ?_
  rintro e w1 ⟨rfl, hd, hf, hz⟩
  have HD1 := Lib.hid hd; clear hd
  have HF1 := Lib.hid hf; clear hf
  have HZ1 := Lib.hid hz; clear hz
  obtain ⟨p, hp⟩ : ∃ p, p = w.heap.size := ⟨_, rfl⟩
  rw [← hp] at HD1
  have HP := Lib.hid hp
  rw [← hp]
  clear hp
  go_wp2_with fail
  have f2 : Frm [] w1 (w1.alloc (.cells #[.int .u8 97, .int .u8 98] 5 (2, 3))) := (Frm.refl _ _).alloc _
  refine (append_ok _ _ _ [97, 98] (HD1.out.keep f2 (by simp)) (two_u8 w1 97 98 (by omega) (by omega) 5 (2, 3)) rfl (by simp) (by simp)).mono ?_
  rintro e w2 ⟨rfl, hd2⟩
  obtain ⟨F2, hd2, hf2, hx2⟩ := hd2.early f2
  have HF2 := Lib.hid (HF1.out.dk (by have := HP.out; omega) HD1.out hf2)
  have HD2 := Lib.hid hd2
  clear hd2 hf2 hx2 f2 HF1 HD1
  go_wp2_with fail
  refine (sync_any HD2.out).mono ?_
  rintro e w3 ⟨rfl, F3, hd3, hf3, hx3⟩
  have HF3 := Lib.hid (HF2.out.dk (by have := HP.out; omega) HD2.out hf3)
  have HD3 := Lib.hid hd3
  clear hd3 hf3 hx3 HF2 HD2
  go_wp2_with fail
  have f4 : Frm [] w3 (w3.alloc (.cells #[.int .u8 99, .int .u8 100] 5 (2, 3))) := (Frm.refl _ _).alloc _
  refine (append_ok _ _ _ [99, 100] (HD3.out.keep f4 (by simp)) (two_u8 w3 99 100 (by omega) (by omega) 5 (2, 3)) rfl (by simp) (by simp)).mono ?_
  rintro e w4 ⟨rfl, hd4⟩
  obtain ⟨F4, hd4, hf4, hx4⟩ := hd4.early f4
  have HF4 := Lib.hid (HF3.out.dk (by have := HP.out; omega) HD3.out hf4)
  have HD4 := Lib.hid hd4
  clear hd4 hf4 hx4 f4 HF3 HD3
  go_wp2_with fail
  refine (crash_any 1 0 HD4.out).mono ?_
  rintro e w5 ⟨rfl, F5, hd5, hf5, hx5⟩
  have HF5 := Lib.hid (HF4.out.dk (by have := HP.out; omega) HD4.out hf5)
  have HD5 : Hid (Dk w5 p p F5 [97, 98, 98] 3 9) := by
    have := hd5
    rw [show ([] ++ [97, 98] ++ [99, 100] : List Nat) = [97, 98, 99, 100] from rfl, show ([] ++ [97, 98] : List Nat).length = 2 from rfl, crashed_awake] at this
    exact this
  clear hd5 hf5 hx5 HF4 HD4
  go_wp2_with fail
  refine (bytes_any HD5.out).mono ?_
  rintro e w6 ⟨a6, cap6, rfl, ho6, hf6⟩
  have hb6 := own_bytes ho6 (by decide)
  have hcv := run_to_string (P := Try.prog) (src := 29) (dst := 9) (e := 5) Try.underlying29 Try.underlying5 Try.underlying9 (n := 3) (c := cap6) hb6.1 rfl
  rw [str_awake] at hcv
  have HF6 := Lib.hid (HF5.out.trans hf6 (U := []) (by simp) (by simp))
  have HD6 := Lib.hid (HD5.out.keep hf6 (by simp))
  clear ho6 hf6 hb6 HF5 HD5
  go_wp2_with fail
  refine (sure_any HD6.out).mono ?_
  rintro e w7 ⟨rfl, rfl⟩
  go_wp2
  go_ret
  exact ⟨rfl, HF6.out.new⟩
end Go.Proofs.Ytibaloloheakpaa
