/- Contract of Frame: bytes with how many they are, and their sum, ahead. -/
import Derived.Test.YtpamiglinmfgkaaStr
import Derived.Test.YtpamiglinmfgkaaPkRefPut
import Derived.Test.YtpamiglinmfgkaaPkAwake
import Derived.Test.YtpamiglinmfgkaaCrcRef
namespace Go.Proofs.Ytpamiglinmfgkaa
open Go.RowKit

/-- A frame's bytes. -/
def fr (l : List Nat) : List Nat := be 4 l.length ++ be 4 (sumN l) ++ l
theorem fr_length (l : List Nat) : (fr l).length = l.length + 8 := by simp [fr, be_length]; omega
theorem fr_lt {l : List Nat} (h : ∀ c ∈ l, c < 256) : ∀ c ∈ fr l, c < 256 := by
  intro c hc
  simp only [fr, List.mem_append] at hc
  rcases hc with (h1 | h1) | h1
  · exact be_lt _ _ c h1
  · exact be_lt _ _ c h1
  · exact h c h1
theorem own_base {w : World} {base base' : Nat} {e : TypeId} {size n : Nat} {v : Value} {xs : List Value} (h : w.ownsRow base e size v n xs) (hb : base' ≤ base) : w.ownsRow base' e size v n xs := by
  refine ⟨h.1, ?_⟩
  rcases h.2 with h2 | ⟨g, cap, cur, hv, hg, r⟩
  · exact .inl h2
  · exact .inr ⟨g, cap, cur, hv, by omega, r⟩
theorem Frm.fresh {w0 w w' : World} {F : List Nat} (h0 : Frm [] w0 w) (hF : ∀ x ∈ F, w0.heap.size ≤ x) (h : Frm F w w') : Frm [] w0 w' := h0.trans h (by simp) (fun x hx => .inr (hF x hx))

theorem frame_long (a : Option Addr) (n cap : Nat) (w : World) (h : 4096 < n) (hn : n ≤ 9223372036854775807) :
    Calls Try.prog 22 #[.slice a n cap] w fun e w' => e = .returned (.tuple #[.slice none 0 0, .int .i64 3]) ∧ w = w' := by
  go_enter Try.func22, Try.ntmps22
  go_wp2
  go_ret2
  exact ⟨rfl, rfl⟩

/-- What Frame hands back. -/
def Framed (w : World) (l : List Nat) (e : Ending) (w' : World) : Prop :=
  ∃ a' cap', e = .returned (.tuple #[.slice a' (fr l).length cap', .int .i64 0]) ∧ w'.ownsRow w.heap.size 5 1 (.slice a' (fr l).length cap') (fr l).length ((fr l).map u8v) ∧ Frm [] w w'

set_option maxHeartbeats 1000000 in
theorem frame_ok (a : Option Addr) (n cap : Nat) (l : List Nat) (w : World) (hl : Bytes w a l) (hn : n = l.length) (hnil : a = none → cap = 0) (h : n ≤ 4096) :
    Calls Try.prog 22 #[.slice a n cap] w (Framed w l) := by
  have hsl := sumN_lt hl.1
  obtain ⟨s, hs⟩ : ∃ s, s = sumN l := ⟨_, rfl⟩
  rw [← hs] at hsl
  have HS := Lib.hid hs; clear hs
  have HL := Lib.hid hl; clear hl
  have HN := Lib.hid hn; clear hn
  have HNIL := Lib.hid hnil; clear hnil
  go_enter Try.func22, Try.ntmps22
  go_wp2_with fail
  refine (u32_any n (Wr.zero w) (by omega) (by simp)).mono ?_
  rintro e w1 ⟨rfl, F1, hw1, hf1, hx1⟩
  have HW1 := Lib.hid hw1; clear hw1
  have HB1 := Lib.hid (((Frm.refl [] w).alloc _).fresh (by simp) hf1); clear hf1 hx1
  go_wp2_with fail
  refine (sum_eq _ _ _ l _ s HS.out.symm (HB1.out.bytes HL.out (by simp)) HN.out).mono ?_
  rintro e w' ⟨rfl, rfl⟩
  go_wp2_with fail
  refine (u32_any s HW1.out hsl (by simp [be_length])).mono ?_
  rintro e w2 ⟨rfl, F2, hw2, hf2, hx2⟩
  have HW2 := Lib.hid hw2; clear hw2
  have HB2 := Lib.hid (HB1.out.fresh (fun x hx => (HW1.out.lt x hx).1) hf2); clear hf2 hx2
  go_wp2_with fail
  refine (put_any HW2.out (HB2.out.bytes HL.out (by simp)) (fun hne x hx => by have := bytes_lt HL.out hne x hx; omega) HN.out HNIL.out (by simp [be_length]; omega)).mono ?_
  rintro e w3 ⟨rfl, F3, hw3, hf3, hx3⟩
  have HW3 := Lib.hid hw3; clear hw3
  have HB3 := Lib.hid (HB2.out.fresh (fun x hx => (HW2.out.lt x hx).1) hf3); clear hf3 hx3
  go_wp2_with fail
  have hfr : [] ++ be 4 n ++ be 4 s ++ l = fr l := by rw [HS.out, HN.out]; rfl
  have hw3 := HW3.out
  rw [hfr] at hw3
  refine (done_any hw3 (by rw [fr_length]; have := HN.out; omega)).mono ?_
  rintro e w4 ⟨a4, cap4, rfl, ho4, hf4⟩
  have HO4 := Lib.hid ho4; clear ho4
  have HF4 := Lib.hid (HB3.out.trans hf4 (U := []) (by simp) (by simp)); clear hf4
  have HSZ := Lib.hid HB3.out.size
  clear hfr hw3
  go_wp2
  go_ret2
  exact ⟨a4, cap4, rfl, own_base HO4.out HSZ.out, HF4.out⟩
end Go.Proofs.Ytpamiglinmfgkaa
