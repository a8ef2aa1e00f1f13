/- One contract for Unframe, and for the reference's: body, rest and error as functions of the bytes. And the reference's Frame. -/
import Derived.Test.YtpamiglinmfgkaaPkRefRead
namespace Go.Proofs.Ytpamiglinmfgkaa
open Go.RowKit

/-- The error that Unframe answers of these bytes. -/
def uC (l : List Nat) : Int :=
  if l.length < 8 then 4 else if 4096 < val (l.take 4) then 3 else if l.length < 8 + val (l.take 4) then 4 else if sumN ((l.drop 8).take (val (l.take 4))) = val ((l.drop 4).take 4) then 0 else 7
/-- The body; what is left. -/
def uX (l : List Nat) : List Nat := if uC l = 0 then (l.drop 8).take (val (l.take 4)) else []
def uY (l : List Nat) : List Nat := if uC l = 0 then l.drop (8 + val (l.take 4)) else []
def Unf (w : World) (x y : List Nat) (c : Int) (e : Ending) (w' : World) : Prop :=
  ∃ a1 cap1 a2 cap2, e = .returned (.tuple #[.slice a1 x.length cap1, .slice a2 y.length cap2, .int .i64 c]) ∧ Bytes w' a1 x ∧ Bytes w' a2 y ∧ Frm [] w w'

theorem unf_err {w : World} {l : List Nat} {c : Int} {e : Ending} {w' : World} (hc : uC l = c) (h0 : c ≠ 0) (h : UnfErr w c e w') : Unf w (uX l) (uY l) (uC l) e w' := by
  have hx : uX l = [] := by unfold uX; rw [hc, if_neg h0]
  have hy : uY l = [] := by unfold uY; rw [hc, if_neg h0]
  rw [hx, hy, hc]
  exact ⟨none, 0, none, 0, h.1, Bytes.nil _, Bytes.nil _, h.2⟩
theorem u_ok {l : List Nat} (h0 : uC l = 0) : 8 + val (l.take 4) ≤ l.length ∧ uX l = (l.drop 8).take (val (l.take 4)) ∧ uY l = l.drop (8 + val (l.take 4)) ∧ (uX l).length = val (l.take 4) ∧ (uY l).length = l.length - (8 + val (l.take 4)) := by
  have h1 : 8 + val (l.take 4) ≤ l.length := by
    unfold uC at h0
    repeat (split at h0; first | (exfalso; omega) | skip)
    all_goals omega
  have hx : uX l = (l.drop 8).take (val (l.take 4)) := by unfold uX; rw [if_pos h0]
  have hy : uY l = l.drop (8 + val (l.take 4)) := by unfold uY; rw [if_pos h0]
  refine ⟨h1, hx, hy, ?_, ?_⟩
  · rw [hx]; simp; omega
  · rw [hy]; simp

theorem unframe_all (a : Option Addr) (n cap : Nat) (l : List Nat) (w : World) (hl : Bytes w a l) (hn : n = l.length) (hnc : n ≤ cap) (hnil : a = none → cap = 0) (hcap : n ≤ 140737488355328) (hcm : cap ≤ 9223372036854775807) :
    Calls Try.prog 24 #[.slice a n cap] w (Unf w (uX l) (uY l) (uC l)) := by
  by_cases h1 : n < 8
  · exact (unframe_short a n cap l w hl hn hnc hnil hcap hcm h1).mono fun e w' h => unf_err (c := 4) (by unfold uC; rw [if_pos (by omega)]) (by decide) h
  by_cases h2 : 4096 < val (l.take 4)
  · exact (unframe_long a n cap l w hl hn hnc hnil hcap hcm _ _ rfl rfl (by omega) h2).mono fun e w' h => unf_err (c := 3) (by unfold uC; rw [if_neg (by omega), if_pos h2]) (by decide) h
  by_cases h3 : n < 8 + val (l.take 4)
  · exact (unframe_less a n cap l w hl hn hnc hnil hcap hcm _ _ rfl rfl (by omega) (by omega) h3).mono fun e w' h => unf_err (c := 4) (by unfold uC; rw [if_neg (by omega), if_neg h2, if_pos (by omega)]) (by decide) h
  by_cases h4 : sumN ((l.drop 8).take (val (l.take 4))) = val ((l.drop 4).take 4)
  · have h0 : uC l = 0 := by unfold uC; rw [if_neg (by omega), if_neg h2, if_neg (by omega), if_pos h4]
    obtain ⟨_, hx, hy, hxl, hyl⟩ := u_ok h0
    refine (unframe_ok a n cap l w hl hn hnc hnil hcap hcm _ _ rfl rfl (by omega) (by omega) (by omega) h4).mono ?_
    rintro e w' ⟨a1, cap1, a2, cap2, rfl, k1, k2, hf⟩
    exact ⟨a1, cap1, a2, cap2, by rw [hxl, hyl, h0], by rw [hx]; exact k1.bytes, by rw [hy]; exact k2.bytes, hf⟩
  · exact (unframe_sum a n cap l w hl hn hnc hnil hcap hcm _ _ rfl rfl (by omega) (by omega) (by omega) _ rfl h4).mono fun e w' h => unf_err (c := 7) (by unfold uC; rw [if_neg (by omega), if_neg h2, if_neg (by omega), if_neg h4]) (by decide) h

theorem ref_unframe_all (a : Option Addr) (n cap : Nat) (l : List Nat) (w : World) (hl : Bytes w a l) (hn : n = l.length) (hnc : n ≤ cap) (hnil : a = none → cap = 0) :
    Calls Try.prog 25 #[.slice a n cap] w (Unf w (uX l) (uY l) (uC l)) := by
  by_cases h1 : n < 8
  · exact (ref_unframe_short a n cap w h1).mono fun e w' h => unf_err (c := 4) (by unfold uC; rw [if_pos (by omega)]) (by decide) h
  by_cases h2 : 4096 < val (l.take 4)
  · exact (ref_unframe_long a n cap l w hl hn hnc hnil _ _ rfl rfl (by omega) h2).mono fun e w' h => unf_err (c := 3) (by unfold uC; rw [if_neg (by omega), if_pos h2]) (by decide) h
  by_cases h3 : n < 8 + val (l.take 4)
  · exact (ref_unframe_less a n cap l w hl hn hnc hnil _ _ rfl rfl (by omega) (by omega) h3).mono fun e w' h => unf_err (c := 4) (by unfold uC; rw [if_neg (by omega), if_neg h2, if_pos (by omega)]) (by decide) h
  by_cases h4 : sumN ((l.drop 8).take (val (l.take 4))) = val ((l.drop 4).take 4)
  · have h0 : uC l = 0 := by unfold uC; rw [if_neg (by omega), if_neg h2, if_neg (by omega), if_pos h4]
    obtain ⟨_, hx, hy, hxl, hyl⟩ := u_ok h0
    refine (ref_unframe_ok a n cap l w hl hn hnc hnil _ _ rfl rfl (by omega) (by omega) (by omega) h4).mono ?_
    rintro e w' ⟨a1, cap1, a2, cap2, rfl, k1, k2, hf⟩
    exact ⟨a1, cap1, a2, cap2, by rw [hxl, hyl, h0], by rw [hx]; exact k1, by rw [hy]; exact k2, hf⟩
  · exact (ref_unframe_sum a n cap l w hl hn hnc hnil _ _ rfl rfl (by omega) (by omega) (by omega) _ rfl h4).mono fun e w' h => unf_err (c := 7) (by unfold uC; rw [if_neg (by omega), if_neg h2, if_neg (by omega), if_neg h4]) (by decide) h

/-- What the reference's Frame hands back. -/
def RFramed (w : World) (l : List Nat) (e : Ending) (w' : World) : Prop :=
  ∃ a' cap', e = .returned (.slice a' (fr l).length cap') ∧ Bytes w' a' (fr l) ∧ Frm [] w w'

set_option maxHeartbeats 1000000 in
theorem ref_frame_any (a : Option Addr) (n cap : Nat) (l : List Nat) (w : World) (hl : Bytes w a l) (hn : n = l.length) (hnil : a = none → cap = 0) (h : n ≤ 4096) :
    Calls Try.prog 23 #[.slice a n cap] w (RFramed w l) := by
  obtain ⟨i0, hi, hz0, hz1, hz2⟩ := info_parts Try.info5
  have HI := Lib.hid hi; clear hi
  have HZ0 := Lib.hid hz0; clear hz0
  have HZ1 := Lib.hid hz1; clear hz1
  have HZ2 := Lib.hid hz2; clear hz2
  have hsl := sumN_lt hl.1
  obtain ⟨s, hs⟩ : ∃ s, s = sumN l := ⟨_, rfl⟩
  rw [← hs] at hsl
  have HS := Lib.hid hs; clear hs
  have HL := Lib.hid hl; clear hl
  have HN := Lib.hid hn; clear hn
  go_enter Try.func23, Try.ntmps23
  go_wp2_with fail
  refine (ref_put_any w.heap.size none 0 [] n 4 w (World.ownsRow_nil _ _ _ _) (Nat.le_refl _) (by omega) (by omega) (by decide)).mono ?_
  rintro e w1 ⟨a1, cap1, rfl, ho1, hf1, hg1⟩
  have HO1 := Lib.hid ho1; clear ho1
  have HF1 : Hid (Frm [] w w1) := hf1
  clear hf1
  have HG1 := Lib.hid hg1; clear hg1
  go_wp2_with fail
  refine (ref_sum_eq _ _ _ l _ s HS.out.symm (HF1.out.bytes HL.out (by simp)) HN.out).mono ?_
  rintro e w' ⟨rfl, rfl⟩
  go_wp2_with fail
  refine (ref_put_any w.heap.size a1 cap1 ([] ++ be 4 n) s 4 w1 HO1.out HF1.out.size (by omega) (by omega) (by simp [be_length])).mono ?_
  rintro e w2 ⟨a2, cap2, rfl, ho2, hf2, hg2⟩
  have hg1 := HG1.out
  have hold : ∀ x ∈ ob a1, w.heap.size ≤ x := by
    intro x hx
    rcases hg1 x hx with h | h
    · simp [ob] at h
    · exact h
  have HF2 := Lib.hid (HF1.out.fresh hold hf2); clear hf2 hold
  have HG2 : Hid (∀ g ∈ ob a2, w.heap.size ≤ g) := by
    intro g hg
    rcases hg2 g hg with h | h
    · rcases hg1 g h with h | h
      · simp [ob] at h
      · exact h
    · have := HF1.out.size; omega
  clear hg2 hg1
  obtain ⟨m, hm⟩ : ∃ m, m = ([] ++ be 4 n ++ be 4 s).length := ⟨_, rfl⟩
  have hm8 : m = 8 := by rw [hm]; simp [be_length]
  obtain ⟨xs, hxs⟩ : ∃ xs, xs = ([] ++ be 4 n ++ be 4 s).map u8v := ⟨_, rfl⟩
  rw [← hm, ← hxs] at ho2
  rw [← hm]
  have HO2 := Lib.hid ho2; clear ho2
  have HM := Lib.hid hm; clear hm
  have hfit : m + n ≤ 140737488355328 := by omega
  have HM8 := Lib.hid hm8; clear hm8
  have HXS := Lib.hid hxs; clear hxs
  go_wp2_with (at_builtin; refine wpList_app rfl (.tmp 10) (.tmp 11) 26 rfl w.heap.size 5 i0 Try.underlying26 HI.out HZ0.out HZ1.out HZ2.out (.slice a2 m cap2) m xs rfl HO2.out _ _ _ l rfl ?b1 HN.out hnil hfit ?base1 ?_)
  case b1 => exact HF2.out.bytes HL.out (by simp)
  case base1 => exact HF2.out.size
  intro a3 cap3 w3 happ
  have HA := Lib.hid happ; clear happ
  go_wp2
  go_ret
  have hlen : m + n = (fr l).length := by rw [fr_length, HM8.out, HN.out]; omega
  have hown := HA.out.own
  have hxl : xs ++ l.map u8v = (fr l).map u8v := by rw [HXS.out, HS.out, HN.out]; simp [fr]
  rw [hxl] at hown
  have hb := bytes_of_own hown (fr_lt HL.out.1)
  refine ⟨a3, cap3, by rw [← hlen]; rfl, hb.2.1, HF2.out.grown HA.out.grown ?_⟩
  intro g hg
  exact .inr (HG2.out g (ob_some.1 hg))
end Go.Proofs.Ytpamiglinmfgkaa
