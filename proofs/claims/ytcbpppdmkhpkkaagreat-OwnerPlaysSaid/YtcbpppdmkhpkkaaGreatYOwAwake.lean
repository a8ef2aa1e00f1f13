/- The law's fixed fact. -/
import Derived.Test.YtcbpppdmkhpkkaaGreatKH
namespace Go.Proofs.YtcbpppdmkhpkkaaGreat
open Go.RowKit
set_option maxRecDepth 100000
def owT : MC := { kind := 3, ticks := 9 }
def owS1 : MS := doS {} owT
def owS2 : MS := acqS owS1 1 7 bB
def owS3 : MS := relS owS2 1 bB
theorem owT_does : doE {} owT = 0 ∧ doN {} owT = 1 := ⟨by kernel_rfl, by kernel_rfl⟩
theorem owA_1 : acqE owS1 1 7 bB = 0 ∧ acqR owS1 1 7 bB = 1 := ⟨by kernel_rfl, by kernel_rfl⟩
theorem owH_2 : hldV owS2 bB = .tuple #[.int .u64 7, .int .u64 1, .bool true] := by kernel_rfl
theorem owA_2 : acqE owS2 1 8 bB = 50 ∧ acqR owS2 1 8 bB = 0 ∧ acqS owS2 1 8 bB = owS2 := ⟨by kernel_rfl, by kernel_rfl, by kernel_rfl⟩
theorem owR_2 : relE owS2 1 bB = 0 := by kernel_rfl
theorem owA_3 : acqE owS3 1 8 bB = 0 ∧ acqR owS3 1 8 bB = 2 := ⟨by kernel_rfl, by kernel_rfl⟩
set_option maxHeartbeats 4000000 in
theorem awake17_any (w : World) : Calls Tryz.prog 7 #[] w fun e w' => e = .returned (.bool true) ∧ Frm [] w w' := by
  have HN := Lib.hid (ko_new w 65536 w (Frm.refl _ _) (by decide))
  rw [show ((65536 : Nat) : Int) = 65536 from rfl] at HN
  go_enter Tryz.func7, Tryz.ntmps7
  go_wp2_with fail
  (with_reducible refine HN.out.mono ?_)
  rintro e w1 ⟨k, rfl, h1⟩
  have D1 := ko_do owT none 0 h1 (by decide) ⟨by decide, by decide, ⟨by decide, by simp [owT]⟩, by decide, by decide, by decide⟩ (Bytes.nil _) (fun _ => rfl) (by decide) (by decide) (by decide)
  rw [show cmdV owT none 0 = .agg #[.int .u8 3, .string ⟨#[]⟩, .slice none 0 0, .int .u64 0, .int .u64 0, .int .u64 9] from rfl, owT_does.1, owT_does.2] at D1
  have D1 := Lib.hid D1
  clear h1 HN
  go_wp2_with fail
  (with_reducible refine D1.out.mono ?_)
  rintro e w2 ⟨n, ga, gn, gc, rfl, hn, h2, _⟩
  obtain rfl : n = 1 := hn (by first | rfl | trivial)
  have A2 := ko_acq 1 7 bB h2 (by decide) (by decide) (by decide) (by decide) (by decide)
  rw [show doS {} owT = owS1 from rfl, owA_1.1, owA_1.2] at A2
  rw [show ((1 : Nat) : Int) = 1 from rfl, show ((7 : Nat) : Int) = 7 from rfl, show ((0 : Nat) : Int) = 0 from rfl, show bB = ⟨#[98]⟩ from rfl] at A2
  rw [show ((1 : Nat) : Int) = 1 from rfl]
  have A2 := Lib.hid A2
  clear h2 D1 hn
  go_wp2_with fail
  (with_reducible refine A2.out.mono ?_)
  rintro e w3 ⟨rfl, h3, _⟩
  have L3 := ko_hld bB h3 (by decide)
  rw [show acqS owS1 1 7 ⟨#[98]⟩ = owS2 from rfl, owH_2, show bB = ⟨#[98]⟩ from rfl] at L3
  have L3 := Lib.hid L3
  have H3 := Lib.hid h3
  clear h3 A2
  go_wp2_with fail
  (with_reducible refine L3.out.mono ?_)
  rintro e w4 ⟨rfl, hf4⟩
  have h4 := H3.out.same hf4
  have A4 := ko_acq 1 8 bB h4 (by decide) (by decide) (by decide) (by decide) (by decide)
  rw [show acqS owS1 1 7 ⟨#[98]⟩ = owS2 from rfl, owA_2.1, owA_2.2.1, owA_2.2.2] at A4
  rw [show ((1 : Nat) : Int) = 1 from rfl, show ((8 : Nat) : Int) = 8 from rfl, show ((50 : Nat) : Int) = 50 from rfl, show ((0 : Nat) : Int) = 0 from rfl, show bB = ⟨#[98]⟩ from rfl] at A4
  have A4 := Lib.hid A4
  clear h4 hf4 L3
  go_wp2_with fail
  (with_reducible refine A4.out.mono ?_)
  rintro e w5 ⟨rfl, h5, _⟩
  have R5 := ko_rel 1 bB h5 (by decide) (by decide) (by decide)
  rw [owR_2] at R5
  rw [show ((1 : Nat) : Int) = 1 from rfl, show ((0 : Nat) : Int) = 0 from rfl, show bB = ⟨#[98]⟩ from rfl] at R5
  have R5 := Lib.hid R5
  clear h5 A4
  go_wp2_with fail
  (with_reducible refine R5.out.mono ?_)
  rintro e w6 ⟨rfl, h6, _⟩
  have A6 := ko_acq 1 8 bB h6 (by decide) (by decide) (by decide) (by decide) (by decide)
  rw [show relS owS2 1 ⟨#[98]⟩ = owS3 from rfl, owA_3.1, owA_3.2] at A6
  rw [show ((1 : Nat) : Int) = 1 from rfl, show ((8 : Nat) : Int) = 8 from rfl, show ((2 : Nat) : Int) = 2 from rfl, show ((0 : Nat) : Int) = 0 from rfl, show bB = ⟨#[98]⟩ from rfl] at A6
  have A6 := Lib.hid A6
  clear h6 R5
  go_wp2_with fail
  (with_reducible refine A6.out.mono ?_)
  rintro e w7 ⟨rfl, h7, _⟩
  have F7 := Lib.hid h7.frm
  clear h7 A6
  go_wp2
  go_ret
  exact ⟨rfl, F7.out⟩
end Go.Proofs.YtcbpppdmkhpkkaaGreat
