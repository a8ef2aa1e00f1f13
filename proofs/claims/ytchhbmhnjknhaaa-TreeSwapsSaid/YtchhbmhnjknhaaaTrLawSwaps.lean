/- TreeSwaps: the walk. -/
import Derived.Test.YtchhbmhnjknhaaaTrAwake
namespace Go.Proofs.Ytchhbmhnjknhaaa
open Go.RowKit

/-- The one key's node behind k rounds. -/
def swL (s : ByteArray) (k : Nat) (v : List Nat) : List Nd := if k = 0 then [] else [⟨s, v, k, 0⟩]
theorem swL_good {s : ByteArray} {k : Nat} {v : List Nat} (h1 : 1 ≤ s.size) (h2 : s.size ≤ 64) (h3 : v.length ≤ 3840) : Good (swL s k v) := by
  unfold swL
  split
  · exact Good.nil
  · exact Good.one h1 h2 h3
theorem sw_put (s : ByteArray) (k : Nat) (v v' : List Nat) (h1 : 1 ≤ s.size) (h2 : s.size ≤ 64) (h3 : v'.length ≤ 3840) (hk : k ≤ 60) :
    putNC (swL s k v) s v' k = 0 ∧ putNR (swL s k v) s v' k = k + 1 ∧ putNL (swL s k v) s v' k 0 = [⟨s, v', k + 1, 0⟩] := by
  unfold swL
  by_cases h0 : k = 0
  · subst h0
    rw [if_pos rfl]
    exact first_put s v' 0 h1 h2 h3
  · rw [if_neg h0]
    obtain ⟨a, b⟩ := next_put s v v' k 0 k 0 h1 h2 h3
    rw [if_neg h0, if_neg (by omega)] at a b
    refine ⟨a, ?_, by rw [b, Nat.mod_eq_of_lt (by omega)]⟩
    unfold putNR
    rw [a, if_neg (by omega), Nat.mod_eq_of_lt (by omega)]
theorem sw_late (s : ByteArray) (k : Nat) (v v' : List Nat) (h1 : 1 ≤ s.size) (h2 : s.size ≤ 64) (h3 : v'.length ≤ 3840) :
    putNC [⟨s, v, k + 1, 0⟩] s v' k = (if k = 0 then 12 else 13) ∧ putNL [⟨s, v, k + 1, 0⟩] s v' k 0 = [⟨s, v, k + 1, 0⟩] := by
  obtain ⟨a, b⟩ := next_put s v v' (k + 1) 0 k 0 h1 h2 h3
  rw [a, b]
  by_cases h0 : k = 0
  · simp [h0]
  · simp [h0]
theorem bytes_late (w : World) (t : TypeId) (m : Nat × Nat) : Bytes (w.alloc (.cells #[.int .u8 108, .int .u8 97, .int .u8 116, .int .u8 101] t m)) (some ⟨w.heap.size, 0, none⟩) [108, 97, 116, 101] := by
  refine ⟨by simp, by simp, .inr ⟨_, _, rfl, fun i hi => ?_⟩⟩
  rw [cell_of_row _ w.heap.size _ #[.int .u8 108, .int .u8 97, .int .u8 116, .int .u8 101] t m (heap_alloc_new w _)]
  have h4 : i = 0 ∨ i = 1 ∨ i = 2 ∨ i = 3 := by simp at hi; omega
  rcases h4 with rfl | rfl | rfl | rfl <;> rfl
def SwRel (w : World) (p n : Nat) (s : ByteArray) (u6 u34 : Value) (wr : World) : Prop :=
  ∃ (k : Nat) (v : List Nat) (a : Option Addr) (cap : Nat) (X : List Nx) (qs : List Nat), k ≤ n ∧ u6 = .int .u64 (k : Nat) ∧ u34 = .int .i64 (k : Nat) ∧ Hid (Pt wr w.heap.size p [] a cap X qs) ∧ Hid (nds X = swL s k v) ∧ Hid (v.length ≤ 3840) ∧ Hid (Frm [] w wr)

set_option maxRecDepth 100000 in
set_option maxHeartbeats 4000000 in
theorem treeSwaps_main (s : ByteArray) (a : Option Addr) (n cap : Nat) (V : List (List Nat)) (w : World) (h : LL w [] a V) (hn : n = V.length) (h1 : 1 ≤ s.size) (h2 : s.size ≤ 64) (h50 : n ≤ 50) :
    Calls Try.prog 7 #[.string s, .slice a n cap] w fun e w' => e = .returned (.bool true) ∧ Below w.heap.size w w' := by
  have kc := fun (w : World) (C : Array Value) (n c : Nat) => Lib.run_convert_bytes_const (P := Try.prog) w 30 5 C n c Try.underlying30 Try.underlying5
  have H := Lib.hid h; clear h
  have HN := Lib.hid hn; clear hn
  have HAW := Lib.hid (awake6_any w)
  have h1' : ¬ s.size < 1 := by omega
  have h2' : ¬ 64 < s.size := by omega
  go_enter Try.func7, Try.ntmps7
  go_wp2_with fail
  (with_reducible refine HAW.out.mono ?_)
  rintro e w1 ⟨rfl, hb⟩
  have HF1 := Lib.hid (Frm.ofBelow hb); clear hb
  go_wp2_with fail
  refine (new_any w1 [] (by simp)).mono ?_
  rintro e w2 ⟨rfl, hd, hf, hz⟩
  obtain ⟨p, hp⟩ : ∃ p, p = w1.heap.size := ⟨_, rfl⟩
  rw [← hp] at hd ⊢
  have hpw : w.heap.size ≤ p := by rw [hp]; exact HF1.out.size
  have HR0 : Hid (SwRel w p n s (.int .u64 (0 : Nat)) (.int .i64 (0 : Nat)) w2) := Lib.hid ⟨0, [], none, 0, [], [], Nat.zero_le _, rfl, rfl, Lib.hid ⟨hd.tree, hd.len, hd.ptrs, hd.nodes, hd.ok, hpw, hd.out, hd.away, hd.qout, hd.few, hd.lcap, hd.mcap, hd.nil⟩, Lib.hid rfl, Lib.hid (by simp), Lib.hid (HF1.out.trans hf (U := []) (by simp) (by simp))⟩
  clear hd hf hz hp HF1 HAW
  go_wp2
  go_loopw [6, 34] (fun u6 u34 wr => SwRel w p n s u6 u34 wr) (fun _ u34 _ => n - (intOf u34).toNat)
  case atStart => exact HR0.out
  case round =>
    clear HR0
    obtain ⟨k, v0, ta, tc, X, qs, hk, rfl, rfl, HP, HX, HV0, HF⟩ := hrel
    by_cases hlt : k < n
    · obtain ⟨b, off, rfl, ai, ci, e0w, ebw, _, en⟩ := H.out.at (i := k) (by have := HN.out; omega)
      have e0 := (HF.out.cell (block_lt_of_cell e0w) (by simp)).trans e0w
      have eb := HF.out.bytes ebw (by simp)
      obtain ⟨v, hv⟩ : ∃ v, v = V.getD k [] := ⟨_, rfl⟩
      rw [← hv] at e0 eb ebw
      obtain ⟨m, hm⟩ : ∃ m, m = v.length := ⟨_, rfl⟩
      rw [← hm] at e0
      have hm63 : m ≤ 9223372036854775807 := by rw [hm]; exact eb.2.1
      have EB := Lib.hid eb
      have EBW := Lib.hid ebw
      have EN := Lib.hid en
      have HM := Lib.hid hm
      clear hv eb ebw e0w en hm
      by_cases hbig : 3840 < m
      · go_wp2
        go_ret
        exact ⟨rfl, HF.out.below (by simp) (Nat.le_refl _)⟩
      · have hpa := sw_put s k v0 v h1 h2 (by have := HM.out; omega) (by omega)
        have hPUT := put_any s ai m ci v k 0 HP.out (by rw [HX.out]; exact swL_good h1 h2 HV0.out) (by simp) EB.out HM.out EN.out (by omega) (by omega) (by omega)
        rw [HX.out, hpa.1, hpa.2.1, hpa.2.2] at hPUT
        obtain ⟨r, hr⟩ : ∃ r, r = k + 1 := ⟨_, rfl⟩
        rw [← hr] at hPUT
        rw [show ((0 : Nat) : Int) = 0 from rfl] at hPUT
        have HPUT := Lib.hid hPUT
        have hwr : IntKind.u64.wrap ((k : Int) + 1) = (r : Int) := by rw [hr]; simp [IntKind.wrap, IntKind.bits, IntKind.signed]; omega
        have hlt3 : lenC s.size m = 0 := by unfold lenC; rw [if_neg (by omega), if_neg (by omega)]
        have HR := Lib.hid hr
        clear hPUT hpa hr hlt3
        go_wp2_with fail
        (with_reducible refine HPUT.out.mono ?_)
        rintro e w3 ⟨rfl, a3, c3, X3, q3, hd3, hn3, hf3⟩
        have HF3 := Lib.hid (HF.out.trans hf3 (U := []) (by simp) (fun x hx => by simp at hx; subst hx; exact .inr hpw))
        have HD3 := Lib.hid hd3
        have HN3 := Lib.hid hn3
        clear hd3 hn3 hf3 HPUT
        go_wp2_with fail
        have f4 : Frm [] w3 (w3.alloc (.cells #[.int .u8 108, .int .u8 97, .int .u8 116, .int .u8 101] 5 (4, 5))) := (Frm.refl _ _).alloc _
        have hla := sw_late s k v [108, 97, 116, 101] h1 h2 (by simp)
        have hPUT := put_any s _ 4 4 [108, 97, 116, 101] k 0 (HD3.out.keep (F' := []) f4 (by simp) (by simp)) (by rw [HN3.out, HR.out]; exact Good.one h1 h2 (by have := HM.out; show v.length ≤ _; omega)) (by simp) (bytes_late w3 5 (4, 5)) rfl (by simp) (by omega) (by omega) (by omega)
        rw [HN3.out, HR.out, hla.1, hla.2, ← HR.out] at hPUT
        obtain ⟨fc, hfc⟩ : ∃ fc, fc = (if k = 0 then 12 else 13) := ⟨_, rfl⟩
        rw [← hfc] at hPUT
        have HFC := Lib.hid hfc
        rw [show ((0 : Nat) : Int) = 0 from rfl] at hPUT
        refine hPUT.mono ?_
        rintro e w5 ⟨rfl, a5, c5, X5, q5, hd5, hn5, hf5⟩
        have HF5 := Lib.hid ((HF3.out.trans f4 (U := []) (by simp) (by simp)).trans hf5 (U := []) (by simp) (fun x hx => by simp at hx; subst hx; exact .inr hpw))
        have HD5 := Lib.hid hd5
        have HN5 := Lib.hid hn5
        clear hd5 hn5 hf5 f4 hla hPUT hfc HF3 HD3
        have hG5 : Good (nds X5) := by rw [HN5.out]; exact Good.one h1 h2 (by have := HM.out; show v.length ≤ _; omega)
        have hgt := one_get ⟨s, v, r, 0⟩
        have his := one_is ⟨s, v, r, 0⟩
        have hGET := get_any s HD5.out hG5.srt hG5.small
        rw [HN5.out, hgt, his] at hGET
        have HGET := Lib.hid hGET
        clear hGET hG5 hgt his
        go_wp2_with fail
        (with_reducible refine HGET.out.mono ?_)
        rintro e w6 ⟨a6, c6, rfl, hb6, hn6, _, hf6⟩
        simp only
        rw [← HM.out]
        obtain ⟨w7, hw7⟩ : ∃ w7, w7 = w6.alloc (.cells #[.string s, .slice a6 m c6, .int .u64 (r : Nat), .int .u64 0] 44) := ⟨_, rfl⟩
        have hf67 : Frm [] w6 w7 := by rw [hw7]; exact (Frm.refl _ _).alloc _
        have HF7 := Lib.hid ((HF5.out.trans hf6 (U := []) (by simp) (by simp)).trans hf67 (U := []) (by simp) (by simp))
        have v1 := run_to_string (P := Try.prog) (src := 30) (dst := 9) (e := 5) Try.underlying30 Try.underlying5 Try.underlying9 (n := m) (c := c6) (hf67.bytes hb6 (by simp)) HM.out
        have v2 := run_to_string (P := Try.prog) (src := 30) (dst := 9) (e := 5) Try.underlying30 Try.underlying5 Try.underlying9 (n := m) (c := ci) (HF7.out.bytes EBW.out (by simp)) HM.out
        rw [hw7] at v1 v2
        have hP7 := HD5.out.keep (F' := []) ((hf6.trans hf67 (U := []) (by simp) (by simp))) (by simp) (by simp)
        have HREL : Hid (SwRel w p n s (.int .u64 (r : Nat)) (.int .i64 ((k + 1 : Nat) : Int)) w7) := Lib.hid ⟨k + 1, v, _, _, _, _, by omega, by rw [HR.out], rfl, Lib.hid hP7, Lib.hid (by rw [HN5.out, HR.out]; unfold swL; rw [if_neg (by omega)]), Lib.hid (by have := HM.out; omega), HF7⟩
        rw [hw7] at HREL
        clear hb6 hn6 hf6 hf67 hw7 hP7 HGET
        by_cases hk0 : k = 0
        · have hq0 : ((k : Int) == 0) = true := by rw [beq_iff_eq]; omega
          have hfw : ((fc : Int) != 12) = false := by have := HFC.out; rw [if_pos hk0] at this; rw [this]; rfl
          clear hk0
          go_wp2
          go_roundw
          case rel => exact HREL.out
          case measure => simp [intOf]; omega
        · have hq0 : ((k : Int) == 0) = false := by rw [beq_eq_false_iff_ne]; omega
          have hfw : ((fc : Int) != 13) = false := by have := HFC.out; rw [if_neg hk0] at this; rw [this]; rfl
          clear hk0
          go_wp2
          go_roundw
          case rel => exact HREL.out
          case measure => simp [intOf]; omega
    · obtain rfl : k = n := by omega
      go_wp2
      go_ret
      exact ⟨rfl, HF.out.below (by simp) (Nat.le_refl _)⟩

theorem treeSwaps_walk (s : ByteArray) (a : Option Addr) (n cap : Nat) (V : List (List Nat)) (w : World) (hs : s.size ≤ 9223372036854775807) (h : LIn w a cap V) (hn : n = V.length) (h63 : n ≤ 9223372036854775807) :
    Calls Try.prog 7 #[.string s, .slice a n cap] w fun e w' => e = .returned (.bool true) ∧ Below w.heap.size w w' := by
  by_cases hbad : s.size < 1 ∨ 64 < s.size ∨ 50 < n
  · have HAW := Lib.hid (awake6_any w)
    have hb' : s.size < 1 ∨ (¬ s.size < 1 ∧ 64 < s.size) ∨ (¬ s.size < 1 ∧ ¬ 64 < s.size ∧ 50 < n) := by omega
    clear hbad h hn
    rcases hb' with h1 | ⟨h1, h2⟩ | ⟨h1, h2, h3⟩
    all_goals
      go_enter Try.func7, Try.ntmps7
      go_wp2_with fail
      (with_reducible refine HAW.out.mono ?_)
      rintro e w1 ⟨rfl, hb⟩
      have HB := Lib.hid hb; clear hb
      go_wp2
      go_ret
      exact ⟨rfl, HB.out⟩
  · exact treeSwaps_main s a n cap V w h.1 hn (by omega) (by omega) (by omega)
end Go.Proofs.Ytchhbmhnjknhaaa
