/- Contract of Awake (the fixed facts of layer 1): it answers true and writes nothing that was there. -/
import Derived.Test.YtmbhmjhjfekcfaaCrcMore
import Derived.Lib.SlBytesConst
namespace Go.Proofs.Ytmbhmjhjfekcfaa
open Go.RowKit

theorem sum_digits : sumN [49, 50, 51, 52, 53, 54, 55, 56, 57] = 3808858755 := by decide +kernel
theorem sum_none : sumN [] = 0 := by decide +kernel
theorem bytes_nil (w : World) (a : Option Addr) : Bytes w a [] := ⟨by simp, by simp, .inl rfl⟩
theorem digits_bytes (w : World) (mk : Nat × Nat) : Bytes (w.alloc (.cells #[.int .u8 49, .int .u8 50, .int .u8 51, .int .u8 52, .int .u8 53, .int .u8 54, .int .u8 55, .int .u8 56, .int .u8 57] 5 mk)) (some ⟨w.heap.size, 0, none⟩) [49, 50, 51, 52, 53, 54, 55, 56, 57] := by
  refine ⟨by decide, by simp, .inr ⟨_, _, rfl, ?_⟩⟩
  intro i hi
  simp at hi
  simp only [World.cell?, World.alloc, Array.getElem?_push]
  match i, hi with
  | 0, _ | 1, _ | 2, _ | 3, _ | 4, _ | 5, _ | 6, _ | 7, _ | 8, _ => rfl
theorem sum_of_digits (w : World) (mk : Nat × Nat) : Calls Try.prog 8 #[.slice (some ⟨w.heap.size, 0, none⟩) 9 9] (w.alloc (.cells #[.int .u8 49, .int .u8 50, .int .u8 51, .int .u8 52, .int .u8 53, .int .u8 54, .int .u8 55, .int .u8 56, .int .u8 57] 5 mk))
    fun e w' => e = .returned (.int .u32 3808858755) ∧ (w.alloc (.cells #[.int .u8 49, .int .u8 50, .int .u8 51, .int .u8 52, .int .u8 53, .int .u8 54, .int .u8 55, .int .u8 56, .int .u8 57] 5 mk)) = w' :=
  (sum_any _ 9 9 _ _ (digits_bytes w mk) rfl).mono fun e w' ⟨he, hw⟩ => ⟨by rw [he, sum_digits]; rfl, hw⟩
theorem sum_of_nil (w : World) : Calls Try.prog 8 #[.slice none 0 0] w fun e w' => e = .returned (.int .u32 0) ∧ w = w' :=
  (sum_any _ 0 0 _ _ (bytes_nil w none) rfl).mono fun e w' ⟨he, hw⟩ => ⟨by rw [he, sum_none]; rfl, hw⟩

theorem awake_any (w : World) :
    Calls Try.prog 7 #[] w fun e w' => e = .returned (.bool true) ∧ Below w.heap.size w w' := by
  have kc := fun (w : World) (C : Array Value) (n c : Nat) => Lib.run_convert_bytes_const (P := Try.prog) w 22 5 C n c Try.underlying22 Try.underlying5
  go_enter Try.func7, Try.ntmps7
  go_wp2_with fail
  refine (sum_of_digits w (9, 10)).mono ?_
  rintro e w' ⟨rfl, rfl⟩
  go_wp2_with fail
  refine (sum_of_nil _).mono ?_
  rintro e w' ⟨rfl, rfl⟩
  go_wp2_with fail
  go_ret
  exact ⟨rfl, (Below.refl _ _).alloc (Nat.le_refl _) _⟩
end Go.Proofs.Ytmbhmjhjfekcfaa
