/- Contracts of number, Name. -/
import Derived.Test.YtbdgmpfdcmmfhaaDoorBnBits
import Derived.Test.YtbdgmpfdcmmfhaaDoorShelf
namespace Go.Proofs.YtbdgmpfdcmmfhaaDoor
open Go.RowKit
set_option maxRecDepth 100000

theorem repeatL_one (c : Nat) : Lib.repeatL [48] c = List.replicate c 48 := by
  induction c with
  | zero => rfl
  | succ c ih => rw [Lib.repeatL, ih]; rfl
theorem rep48 (c : Nat) : (⟨(Lib.repeatL [48] c).toArray⟩ : ByteArray) = strOf (List.replicate c 48) := by
  unfold strOf
  congr 1
  rw [repeatL_one]
  simp
theorem strOf_append (a b : List Nat) : strOf a ++ strOf b = strOf (a ++ b) := by
  apply ByteArray.ext
  simp [strOf]
theorem rep48_any (w : World) (c : Nat) (hc : c ≤ 4) : Calls Tryd.prog 34 #[.string ⟨#[48]⟩, .int .i64 (c : Nat)] w fun e w' => e = .returned (.string (strOf (List.replicate c 48))) ∧ Frm [] w w' :=
  (Tryd.strings_Repeat ⟨#[48]⟩ c w (by omega) (by show 1 * c ≤ _; omega)).mono fun _ _ h => ⟨by rw [h.1, ← rep48], Frm.ofBelow h.2⟩

set_option maxHeartbeats 1000000 in
theorem bnumber_any {w : World} (n : Nat) (hn : n ≤ 65536) (h : Bt w) :
    Calls Tryd.prog 28 #[.int .i64 (n : Nat)] w fun e w' => e = .returned (.string (strOf (numL n))) ∧ Frm [] w w' := by
  have H := Lib.hid (fmt_any n hn h)
  have HR := Lib.hid (fun z c hc => rep48_any z c hc)
  have PAD : Hid (strOf (List.replicate (3 - digN n) 48) ++ strOf (digL n (digN n)) = strOf (numL n)) := Lib.hid (by rw [strOf_append, ← numL_pad hn])
  have hk4 : digN n ≤ 4 := by unfold digN; (repeat' split) <;> omega
  obtain ⟨S, hS⟩ : ∃ S, S = strOf (digL n (digN n)) := ⟨_, rfl⟩
  have SZ : S.size = digN n + 1 := by rw [hS, strOf_size, digL_len]
  rw [← hS] at H PAD
  clear hS
  obtain ⟨T, hT⟩ : ∃ T, T = strOf (numL n) := ⟨_, rfl⟩
  rw [← hT] at PAD ⊢
  clear hT
  obtain ⟨k, hk⟩ : ∃ k, k = digN n := ⟨_, rfl⟩
  rw [← hk] at hk4 SZ PAD
  clear hk
  obtain ⟨c, hc⟩ : ∃ c, c = 3 - k := ⟨_, rfl⟩
  rw [← hc] at PAD
  have hc4 : c ≤ 4 := by omega
  have HRC := Lib.hid (fun z => HR.out z c hc4)
  obtain ⟨R, hR⟩ : ∃ R, R = strOf (List.replicate c 48) := ⟨_, rfl⟩
  have sR : R.size ≤ 4 := by rw [hR, strOf_size, List.length_replicate]; exact hc4
  rw [← hR] at HRC PAD
  clear hR
  have s3 : max (4 - ((k : Int) + 1)) 0 = (c : Int) := by omega
  have S3 := Lib.hid s3
  clear s3
  have w1 : IntKind.u64.wrap (n : Int) = (n : Int) := by rw [IntKind.wrap_u64]; omega
  clear hc
  go_enter Tryd.func28, Tryd.ntmps28
  go_wp2_with fail
  (with_reducible refine H.out.mono ?_)
  rintro e z ⟨rfl, hz⟩
  have HZ := Lib.hid hz
  clear hz
  go_wp2_with fail
  rw [S3.out]
  (with_reducible refine (HRC.out _).mono ?_)
  rintro e z2 ⟨rfl, hz2⟩
  have HZ2 : Hid (Frm [] w z2) := Lib.hid (HZ.out.trans hz2 (by simp) (by simp))
  clear hz2
  go_wp2
  go_ret
  exact ⟨congrArg (fun x => Ending.returned (Value.string x)) PAD.out, HZ2.out⟩
set_option maxHeartbeats 1000000 in
theorem bname_any {w : World} (lo hi : Nat) (h1 : lo ≤ 65536) (h2 : hi ≤ 65536) (h : Bt w) :
    Calls Tryd.prog 22 #[.int .i64 (lo : Nat), .int .i64 (hi : Nat)] w fun e w' => e = .returned (.string (strOf (nameL lo hi))) ∧ Frm [] w w' := by
  have H := Lib.hid (fun z (hz : Frm [] w z) => bnumber_any lo h1 (h.keep hz (by simp)))
  have H2 := Lib.hid (fun z (hz : Frm [] w z) => bnumber_any hi h2 (h.keep hz (by simp)))
  have FIN : Hid (strOf (numL lo) ++ ⟨#[45]⟩ ++ strOf (numL hi) = strOf (nameL lo hi)) := Lib.hid (by
    have e : (⟨#[45]⟩ : ByteArray) = strOf [45] := rfl
    rw [e, strOf_append, strOf_append]; rfl)
  obtain ⟨T, hT⟩ : ∃ T, T = strOf (nameL lo hi) := ⟨_, rfl⟩
  obtain ⟨A, hA⟩ : ∃ A, A = strOf (numL lo) := ⟨_, rfl⟩
  obtain ⟨B, hB⟩ : ∃ B, B = strOf (numL hi) := ⟨_, rfl⟩
  rw [← hA, ← hB, ← hT] at FIN
  have sA : A.size ≤ 5 := by rw [hA, strOf_size]; unfold numL; rw [digL_len]; split <;> omega
  have sB : B.size ≤ 5 := by rw [hB, strOf_size]; unfold numL; rw [digL_len]; split <;> omega
  rw [← hA] at H
  rw [← hB] at H2
  rw [← hT]
  clear hA hB hT h
  go_enter Tryd.func22, Tryd.ntmps22
  go_wp2_with fail
  (with_reducible refine (H.out _ (Frm.refl _ _)).mono ?_)
  rintro e z ⟨rfl, hz⟩
  have HZ := Lib.hid hz
  clear hz
  go_wp2_with fail
  (with_reducible refine (H2.out _ HZ.out).mono ?_)
  rintro e z2 ⟨rfl, hz2⟩
  have HZ2 : Hid (Frm [] w z2) := Lib.hid (HZ.out.trans hz2 (by simp) (by simp))
  clear hz2
  go_wp2
  go_ret
  exact ⟨congrArg (fun x => Ending.returned (Value.string x)) FIN.out, HZ2.out⟩
end Go.Proofs.YtbdgmpfdcmmfhaaDoor
