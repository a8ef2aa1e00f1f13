/- Contract of Awake (the fixed fact of layer 6): it answers true and writes nothing that was there; a tree of one key. -/
import Derived.Test.YtchhbmhnjknhaaaTrAlike
import Derived.Lib.SlBytesConst
namespace Go.Proofs.Ytchhbmhnjknhaaa
open Go.RowKit

theorem one_ix (d : Nd) : ixN [d] d.k = 0 := by unfold ixN; simp [List.findIdx_cons, kl_irr]
theorem one_is (d : Nd) : isN [d] d.k = true := by unfold isN; rw [one_ix]; simp
theorem none_ix (s : ByteArray) : ixN [] s = 0 := rfl
theorem none_is (s : ByteArray) : isN [] s = false := by unfold isN; simp
theorem first_put (s : ByteArray) (v : List Nat) (o : Nat) (h1 : 1 ≤ s.size) (h2 : s.size ≤ 64) (h3 : v.length ≤ 3840) : putNC [] s v 0 = 0 ∧ putNR [] s v 0 = 1 ∧ putNL [] s v 0 o = [⟨s, v, 1, o⟩] := by
  have hl : lenC s.size v.length = 0 := by unfold lenC; rw [if_neg (by omega), if_neg (by omega)]
  have hc : putNC [] s v 0 = 0 := by unfold putNC unwC; rw [if_neg (by omega), none_is, if_neg (by simp), if_neg (by omega), if_neg (by simp)]
  refine ⟨hc, by unfold putNR; rw [if_neg (by omega)], ?_⟩
  unfold putNL
  rw [if_neg (by omega), none_is, if_neg (by simp)]
  rfl
theorem next_put (s : ByteArray) (v v' : List Nat) (ver o want o' : Nat) (h1 : 1 ≤ s.size) (h2 : s.size ≤ 64) (h3 : v'.length ≤ 3840) :
    putNC [⟨s, v, ver, o⟩] s v' want = (if want = 0 then 12 else if ver ≠ want then 13 else 0) ∧
    putNL [⟨s, v, ver, o⟩] s v' want o' = (if want = 0 then [⟨s, v, ver, o⟩] else if ver ≠ want then [⟨s, v, ver, o⟩] else [⟨s, v', (want + 1) % 18446744073709551616, o⟩]) := by
  have hl : lenC s.size v'.length = 0 := by unfold lenC; rw [if_neg (by omega), if_neg (by omega)]
  have hi : isN [(⟨s, v, ver, o⟩ : Nd)] s = true := one_is ⟨s, v, ver, o⟩
  have hx : ixN [(⟨s, v, ver, o⟩ : Nd)] s = 0 := one_ix ⟨s, v, ver, o⟩
  have hc : putNC [⟨s, v, ver, o⟩] s v' want = (if want = 0 then 12 else if ver ≠ want then 13 else 0) := by
    unfold putNC unwC
    rw [if_neg (by omega), hi, if_pos rfl, hx]
    rfl
  refine ⟨hc, ?_⟩
  unfold putNL
  rw [hc, hi, hx]
  by_cases h0 : want = 0
  · rw [if_pos h0, if_pos (by omega), if_pos h0]
  · rw [if_neg h0, if_neg h0]
    by_cases h4 : ver ≠ want
    · rw [if_pos h4, if_pos (by omega), if_pos h4]
    · rw [if_neg h4, if_neg (by omega), if_pos rfl, if_neg h4]; rfl
theorem one_get (d : Nd) : getN [d] d.k = d := by unfold getN; rw [one_is, if_pos rfl, one_ix]; rfl
theorem Good.one {s : ByteArray} {v : List Nat} {ver o : Nat} (h1 : 1 ≤ s.size) (h2 : s.size ≤ 64) (h3 : v.length ≤ 3840) : Good [⟨s, v, ver, o⟩] := ⟨by simp [Srt], fun d hd => by simp at hd; subst hd; exact ⟨h1, h2, h3⟩⟩
theorem u8_one (w : World) (x : Nat) (hx : x < 256) (t : TypeId) (m : Nat × Nat) : Bytes (w.alloc (.cells #[.int .u8 x] t m)) (some ⟨w.heap.size, 0, none⟩) [x] := by
  refine ⟨by simp [hx], by simp, .inr ⟨_, _, rfl, fun i hi => ?_⟩⟩
  rw [cell_of_row _ w.heap.size _ #[.int .u8 (x : Int)] t m (heap_alloc_new w _)]
  simp at hi
  subst hi
  simp

set_option maxRecDepth 100000 in
set_option maxHeartbeats 2000000 in
theorem awake6_any (w : World) :
    Calls Try.prog 10 #[] w fun e w' => e = .returned (.bool true) ∧ Below w.heap.size w w' := by
  have kc := fun (w : World) (C : Array Value) (n c : Nat) => Lib.run_convert_bytes_const (P := Try.prog) w 30 5 C n c Try.underlying30 Try.underlying5
  obtain ⟨S, hS⟩ : ∃ S : ByteArray, S = ⟨#[97]⟩ := ⟨_, rfl⟩
  have hs1 : 1 ≤ S.size ∧ S.size ≤ 64 := by rw [hS]; decide
  have HS := Lib.hid hS
  have HS1 := Lib.hid hs1
  clear hS hs1
  go_enter Try.func10, Try.ntmps10
  go_wp2_with fail
  refine (new_any w [] (by simp)).mono ?_
  rintro e w1 ⟨rfl, hd, hf, hz⟩
  obtain ⟨p, hp⟩ : ∃ p, p = w.heap.size := ⟨_, rfl⟩
  rw [← hp] at hd ⊢
  have HP := Lib.hid (Nat.le_of_eq hp.symm)
  have HD1 := Lib.hid hd
  have HF1 := Lib.hid hf
  clear hd hf hz hp
  go_wp2_with fail
  rw [← HS.out]
  have f2 : Frm [] w1 (w1.alloc (.cells #[.int .u8 120] 5 (1, 2))) := (Frm.refl _ _).alloc _
  refine (put_any S _ 1 1 [120] 0 7 (HD1.out.keep (F' := []) f2 (by simp) (by simp)) Good.nil (by simp) (u8_one w1 120 (by omega) 5 (1, 2)) rfl (by simp) (by have := HS1.out; omega) (by omega) (by omega)).mono ?_
  rintro e w3 ⟨rfl, a3, c3, L3, q3, hd3, hn3, hf3⟩
  have hp3 := first_put S [120] 7 HS1.out.1 HS1.out.2 (by simp)
  rw [show nds [] = [] from rfl, hp3.1, hp3.2.1]
  rw [show nds [] = [] from rfl, hp3.2.2] at hn3
  have HF3 := Lib.hid ((HF1.out.trans f2 (U := []) (by simp) (by simp)).trans hf3 (U := []) (by simp) (fun x hx => by simp at hx; subst hx; exact .inr HP.out))
  have HD3 := Lib.hid hd3
  have HN3 := Lib.hid hn3
  clear hd3 hn3 hf3 f2 hp3 HD1 HF1
  go_wp2_with fail
  rw [← HS.out]
  have f2 : Frm [] w3 (w3.alloc (.cells #[.int .u8 121] 5 (1, 2))) := (Frm.refl _ _).alloc _
  refine (put_any S _ 1 1 [121] 0 7 (HD3.out.keep (F' := []) f2 (by simp) (by simp)) (by rw [HN3.out]; exact Good.one HS1.out.1 HS1.out.2 (by simp)) (by simp) (u8_one w3 121 (by omega) 5 (1, 2)) rfl (by simp) (by have := HS1.out; omega) (by omega) (by omega)).mono ?_
  rintro e w4 ⟨rfl, a4, c4, L4, q4, hd4, hn4, hf4⟩
  have hp4 := next_put S [120] [121] 1 7 0 7 HS1.out.1 HS1.out.2 (by simp)
  rw [if_pos rfl, if_pos rfl] at hp4
  rw [HN3.out, hp4.2] at hn4
  rw [HN3.out, hp4.1]
  have HF4 := Lib.hid ((HF3.out.trans f2 (U := []) (by simp) (by simp)).trans hf4 (U := []) (by simp) (fun x hx => by simp at hx; subst hx; exact .inr HP.out))
  have HD4 := Lib.hid hd4
  have HN4 := Lib.hid hn4
  clear hd4 hn4 hf4 f2 hp4 HD3 HF3
  go_wp2_with fail
  rw [← HS.out]
  have f2 : Frm [] w4 (w4.alloc (.cells #[.int .u8 121] 5 (1, 2))) := (Frm.refl _ _).alloc _
  refine (put_any S _ 1 1 [121] 1 9 (HD4.out.keep (F' := []) f2 (by simp) (by simp)) (by rw [HN4.out]; exact Good.one HS1.out.1 HS1.out.2 (by simp)) (by simp) (u8_one w4 121 (by omega) 5 (1, 2)) rfl (by simp) (by have := HS1.out; omega) (by omega) (by omega)).mono ?_
  rintro e w5 ⟨rfl, a5, c5, L5, q5, hd5, hn5, hf5⟩
  have hp5 := next_put S [120] [121] 1 7 1 9 HS1.out.1 HS1.out.2 (by simp)
  rw [if_neg (by omega), if_neg (by omega), if_neg (by omega), if_neg (by omega)] at hp5
  have hr5 : putNR [⟨S, [120], 1, 7⟩] S [121] 1 = 2 := by unfold putNR; rw [hp5.1, if_neg (by omega)]
  rw [HN4.out, hp5.2] at hn5
  rw [HN4.out, hp5.1, hr5]
  have HF5 := Lib.hid ((HF4.out.trans f2 (U := []) (by simp) (by simp)).trans hf5 (U := []) (by simp) (fun x hx => by simp at hx; subst hx; exact .inr HP.out))
  have HD5 := Lib.hid hd5
  have HN5 := Lib.hid hn5
  clear hd5 hn5 hf5 f2 hp5 hr5 HD4 HF4
  go_wp2_with fail
  rw [← HS.out]
  have hg5 : Good (nds L5) := by rw [HN5.out]; exact Good.one HS1.out.1 HS1.out.2 (by simp)
  have hgt := one_get ⟨S, [121], (1 + 1) % 18446744073709551616, 7⟩
  have his := one_is ⟨S, [121], (1 + 1) % 18446744073709551616, 7⟩
  have HGT := Lib.hid (get_any S HD5.out hg5.srt hg5.small)
  rw [HN5.out, hgt, his] at HGT
  clear hg5 hgt his
  refine HGT.out.mono ?_
  rintro e w6 ⟨a6, c6, rfl, _, _, _, hf6⟩
  have HF6 := Lib.hid (HF5.out.trans hf6 (U := []) (by simp) (by simp))
  clear hf6 HGT
  go_wp2
  go_ret
  exact ⟨rfl, (HF6.out.alloc _).below (by simp) (Nat.le_refl _)⟩
end Go.Proofs.Ytchhbmhnjknhaaa
