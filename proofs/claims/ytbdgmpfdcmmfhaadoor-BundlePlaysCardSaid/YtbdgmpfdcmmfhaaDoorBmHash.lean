/- Contract of Hash; which bundle has a hash, by the list of all. -/
import Derived.Test.YtbdgmpfdcmmfhaaDoorBmAwake
import Derived.Test.YtbdgmpfdcmmfhaaDoorBaFew
import Derived.Test.YtbdgmpfdcmmfhaaDoorConv
import Derived.Test.YtbdgmpfdcmmfhaaDoorCrcMore
import Derived.Test.YtbdgmpfdcmmfhaaDoorCrcRef
namespace Go.Proofs.YtbdgmpfdcmmfhaaDoor
open Go.RowKit
set_option maxRecDepth 100000

set_option maxHeartbeats 1000000 in
theorem bhash_any (s : ByteArray) (w : World) (hs : s.size ≤ 9223372036854775807) : Calls Tryd.prog 20 #[.string s] w fun e w' => e = .returned (.int .i64 ((sumN (strL s) / 65536 : Nat) : Nat)) ∧ Frm [] w w' := by
  have hcv := fun (w : World) => Lib.run_convert_string_bytes (P := Tryd.prog) w 9 46 5 s Tryd.underlying9 Tryd.underlying46 Tryd.underlying5
  obtain ⟨wb, hwb⟩ : ∃ wb, wb = Lib.bytesWorld w 5 s := ⟨_, rfl⟩
  have FB : Hid (Frm [] w wb) := Lib.hid (by rw [hwb]; exact conv_frm _ _ _)
  obtain ⟨r, hr⟩ : ∃ r, r = sumN (strL s) := ⟨_, rfl⟩
  have CS := Lib.hid (fun cp => sum_eq (some ⟨w.heap.size, 0, none⟩) s.size cp (strL s) wb r hr.symm (by rw [hwb]; exact conv_bytes _ _ _ hs) (strL_length s).symm)
  have hr32 : r < 4294967296 := by rw [hr]; exact sumN_lt (strL_lt s)
  rw [← hr]
  obtain ⟨q, hq⟩ : ∃ q, q = r / 65536 := ⟨_, rfl⟩
  have q1 : (r : Int) / 65536 = (q : Int) := by omega
  have q2 : IntKind.i64.wrap (q : Int) = (q : Int) := IntWalk.i64_in _ (by omega)
  rw [← hq]
  have HWB := Lib.hid hwb
  clear hr hq hwb
  go_enter Tryd.func20, Tryd.ntmps20
  go_wp2_with fail
  rw [← HWB.out]
  (with_reducible refine (CS.out _).mono ?_)
  rintro e z ⟨rfl, hz⟩
  obtain rfl : wb = z := hz
  go_wp2
  go_ret
  exact ⟨rfl, FB.out⟩

/-- Where the bundle that begins at place t ends. -/
def toB (L : List Nat) (t : Nat) : Nat := if t + 1 < (0 :: L).length then (0 :: L).getD (t + 1) 0 else 65536
theorem ofP_at {L : List Nat} {h t : Nat} (ok : BmOk L) (h6 : h < 65536) (ht : t < (0 :: L).length) (h1 : (0 :: L).getD t 0 ≤ h) (h2 : h < toB L t) : OfP (Bf L) h ((0 :: L).getD t 0) (toB L t) := by
  have hlo : ∀ i, i < t → L.getD i 0 ≤ h := fun i hi => by
    cases t with
    | zero => omega
    | succ t =>
      have e : (0 :: L).getD (t + 1) 0 = L.getD t 0 := by simp
      rw [e] at h1
      have ht' : t < L.length := by simpa using ht
      rcases Nat.eq_or_lt_of_le (show i ≤ t by omega) with e2 | e2
      · subst e2; exact h1
      · have := ok.lt e2 ht'; omega
  unfold toB at h2 ⊢
  by_cases hc : t + 1 < (0 :: L).length
  · rw [if_pos hc] at h2 ⊢
    have ht' : t < L.length := by simpa using hc
    have e : (0 :: L).getD (t + 1) 0 = L.getD t 0 := by simp
    rw [e] at h2 ⊢
    exact ofP_next ok ht' hlo h2
  · rw [if_neg hc] at h2 ⊢
    have ht' : t = L.length := by simp at ht hc; omega
    subst ht'
    exact ofP_last ok hlo h6
theorem pick_one {L : List Nat} {h lo hi : Nat} (ok : BmOk L) (h6 : h < 65536) (o : OfP (Bf L) h lo hi) : ∃ kh, kh < (0 :: L).length ∧ (0 :: L).getD kh 0 = lo ∧ toB L kh = hi ∧ lo ≤ h ∧ h < hi ∧
    ∀ t, t < (0 :: L).length → t ≠ kh → ¬ ((0 :: L).getD t 0 ≤ h ∧ h < toB L t) := by
  have hm : lo ∈ 0 :: L := by
    have := Bf_true.1 o.at'
    rw [List.mem_cons]; exact this
  obtain ⟨kh, hk, e⟩ := mem_getD hm
  have h2 : h < toB L kh := by
    unfold toB
    split
    · rename_i hc
      apply Classical.byContradiction
      intro hn
      have ht' : kh < L.length := by simpa using hc
      have e2 : (0 :: L).getD (kh + 1) 0 = L.getD kh 0 := by simp
      rw [e2] at hn
      have hb : Bf L (L.getD kh 0) = true := Bf_true.2 (.inr (getD_mem ht'))
      have hlt : lo < L.getD kh 0 := by
        rw [← e]
        cases kh with
        | zero => have := (ok.in' _ (getD_mem ht')).1; simpa using this
        | succ kh =>
          have e3 : (0 :: L).getD (kh + 1) 0 = L.getD kh 0 := by simp
          rw [e3]; exact ok.lt (by omega) ht'
      have := o.no _ hlt (by have := o.lt; omega)
      rw [hb] at this; cases this
    · exact h6
  have o2 := ofP_at ok h6 hk (by rw [e]; exact o.le) h2
  obtain ⟨_, e4⟩ := o2.uniq o
  refine ⟨kh, hk, e, e4, o.le, o.lt, fun t ht hne hh => ?_⟩
  obtain ⟨e5, _⟩ := (ofP_at ok h6 ht hh.1 hh.2).uniq o
  have hs := ok.cons
  have key : ∀ i j, i < j → j < (0 :: L).length → (0 :: L).getD i 0 < (0 :: L).getD j 0 := fun i j hij hj => by
    have := List.pairwise_iff_getElem.1 hs i j (by omega) hj hij
    have hi : i < (0 :: L).length := by omega
    simpa only [List.getD_eq_getElem?_getD, List.getElem?_eq_getElem hi, List.getElem?_eq_getElem hj, Option.getD_some] using this
  rcases Nat.lt_or_ge t kh with h7 | h7
  · have := key t kh h7 hk; omega
  · have := key kh t (by omega) ht; omega
end Go.Proofs.YtbdgmpfdcmmfhaaDoor
