/- JournalOpens: the walk. -/
import Derived.Test.YteidfplenleogaaMC
import Derived.Deep.RegionHeld3
import Derived.Lib.SlBytesConst
namespace Go.Proofs.Yteidfplenleogaa
open Go.RowKit

theorem bytes_const (w : World) (l : List Nat) (h : ∀ c ∈ l, c < 256) (hl : l.length ≤ 9223372036854775807) (t : TypeId) (m : Nat × Nat) : Bytes (w.alloc (.cells (l.map u8v).toArray t m)) (some ⟨w.heap.size, 0, none⟩) l := by
  refine ⟨h, hl, .inr ⟨_, _, rfl, fun i hi => ?_⟩⟩
  rw [cell_of_row _ w.heap.size _ (l.map u8v).toArray t m (heap_alloc_new w _)]
  simp [hi, u8v]
def moreL : List Nat := [109, 111, 114, 101]
theorem more_const (w : World) (t : TypeId) : Bytes (w.alloc (.cells #[.int .u8 109, .int .u8 111, .int .u8 114, .int .u8 101] t (4, 5))) (some ⟨w.heap.size, 0, none⟩) moreL :=
  bytes_const w moreL (by decide) (by decide) t (4, 5)
theorem recs_more (l : List Nat) (h8 : ∀ c ∈ l, c < 256) : recs (l.take (recN l) ++ fr moreL) = recs l ++ [moreL] := by
  obtain ⟨h1, h2, h3, h4⟩ := recs_whole l h8
  have e := recs_fr (b := moreL) [] (by decide) (by decide)
  rw [List.append_nil, recs_nil.1] at e
  rw [h1, (recs_all _ _ h2).1, e.1]

theorem journalOpens_long (a : Option Addr) (n cap s : Nat) (w : World) (h : 6000 < n) (hn : n ≤ 9223372036854775807) :
    Calls Try.prog 3 #[.slice a n cap, .int .u16 (s : Nat)] w fun e w' => e = .returned (.bool true) ∧ Below w.heap.size w w' := by
  go_enter Try.func3, Try.ntmps3
  go_wp2_with fail
  refine (awake5_any w).mono ?_
  rintro e w1 ⟨rfl, hb⟩
  have HB := Lib.hid hb; clear hb
  go_wp2
  go_ret
  exact ⟨rfl, HB.out⟩

set_option maxRecDepth 100000 in
set_option maxHeartbeats 4000000 in
theorem journalOpens_main (a : Option Addr) (n cap : Nat) (l : List Nat) (s : Nat) (w : World) (hn : n = l.length) (hl : Bytes w a l) (hc : n ≤ cap) (hnil : a = none → cap = 0) (hs : s < 65536) (h6 : n ≤ 6000) :
    Calls Try.prog 3 #[.slice a n cap, .int .u16 (s : Nat)] w fun e w' => e = .returned (.bool true) ∧ Below w.heap.size w w' := by
  obtain ⟨k, hk⟩ : ∃ k, k = min s n := ⟨_, rfl⟩
  have hmin : ∀ (w : World), (Builtin.min_ #[3, 3] 3 #[.int .i64 (s : Int), .int .i64 (n : Int)]).run Try.prog w = .ok (.int .i64 (k : Nat)) w := by
    intro w
    simp [go_sem]
    split <;> (first | (simp; omega) | omega)
  have hkn : k ≤ n := by omega
  clear hk
  have hcut1 := fun w => run_head_h Try.underlying22 sizeU8 w a n cap k (by omega)
  have hcut2 := fun w => run_cut_l (P := Try.prog) Try.underlying22 sizeU8 w a n cap k (k : Int) rfl hkn
  have HC2 : Hid (∀ z, Frm [] w z → Bytes z (cutAt a cap k) (l.drop k)) := Lib.hid fun z hz => cut_bytes (hz.bytes hl (by simp)) (by omega) k
  have HN2 := Lib.hid (fun h => cut_none (lo := k) hnil h)
  obtain ⟨a2, ha2⟩ : ∃ a2, a2 = cutAt a cap k := ⟨_, rfl⟩
  obtain ⟨n2, hn2⟩ : ∃ n2, n2 = n - k := ⟨_, rfl⟩
  obtain ⟨c2, hc2⟩ : ∃ c2, c2 = cap - k := ⟨_, rfl⟩
  rw [← ha2, ← hn2, ← hc2] at hcut2
  rw [← ha2] at HC2 HN2
  rw [← hc2] at HN2
  have HL2 : Hid (n2 = (l.drop k).length) := by show n2 = _; rw [hn2, List.length_drop, hn]
  have hlen1 : (l.take k).length = k := by rw [List.length_take]; omega
  have HL1 := Lib.hid hlen1.symm
  clear hn2 ha2 hc2 hlen1
  have HN := Lib.hid hn; clear hn
  have HL := Lib.hid hl; clear hl
  have HNIL := Lib.hid hnil; clear hnil
  obtain ⟨i0, hi, hz0, hz1, hz2⟩ := info_parts Try.info22
  have HI := Lib.hid hi; clear hi
  have HZ0 := Lib.hid hz0; clear hz0
  have HZ1 := Lib.hid hz1; clear hz1
  have HZ2 := Lib.hid hz2; clear hz2
  go_enter Try.func3, Try.ntmps3
  go_wp2_with fail
  refine (awake5_any w).mono ?_
  rintro e w1 ⟨rfl, hb⟩
  have HF1 := Lib.hid (Frm.ofBelow hb); clear hb
  go_wp2_with fail
  refine (new_ok 10000 _ (by omega)).mono ?_
  rintro e w2 ⟨rfl, hd, hf, hz⟩
  have hsz := HF1.out.size
  obtain ⟨p, hp⟩ : ∃ p, p = w1.heap.size := ⟨_, rfl⟩
  rw [← hp] at hd hsz ⊢
  have HD2 := Lib.hid hd
  have HF2 := Lib.hid (HF1.out.trans hf (U := []) (by simp) (by simp))
  clear hd hf hz hp HF1
  go_wp2_with fail
  refine (append_ok a k cap (l.take k) HD2.out ((HF2.out.bytes HL.out (by simp)).take k) HL1.out HNIL.out (by have := HL1.out; simp only [List.length_nil]; omega)).mono ?_
  rintro e w3 ⟨rfl, F3, hd3, hf3, hx3⟩
  have HF3 := Lib.hid (HF2.out.dk hsz HD2.out hf3)
  have HD3 := Lib.hid hd3
  clear hd3 hf3 hx3 HF2 HD2
  go_wp2_with fail
  refine (sync_any HD3.out).mono ?_
  rintro e w4 ⟨rfl, F4, hd4, hf4, hx4⟩
  have HF4 := Lib.hid (HF3.out.dk hsz HD3.out hf4)
  have HD4 := Lib.hid hd4
  clear hd4 hf4 hx4 HF3 HD3
  go_wp2_with fail
  refine (append_ok a2 n2 c2 (l.drop k) HD4.out (HC2.out _ HF4.out) HL2.out HN2.out (by have h1 := HL1.out; have h2 := HN.out; have h3 := HL2.out; simp only [List.nil_append, List.length_drop] at *; omega)).mono ?_
  rintro e w5 ⟨rfl, F5, hd5, hf5, hx5⟩
  rw [List.nil_append, List.take_append_drop] at hd5
  have HF5 := Lib.hid (HF4.out.dk hsz HD4.out hf5)
  have HD5 := Lib.hid hd5
  clear hd5 hf5 hx5 HF4 HD4 hcut1 hcut2 HC2 HN2 HL2 HL1 hmin
  go_wp2_with fail
  refine (jopen_any HD5.out).mono ?_
  rintro e w6 ⟨q, F6, ao, co, vo, rfl, op6⟩
  have HW := Lib.hid (recs_whole l HL.out.1)
  obtain ⟨m, hm⟩ : ∃ m, m = recN l := ⟨_, rfl⟩
  obtain ⟨R, hR⟩ : ∃ R, R = recs l := ⟨_, rfl⟩
  obtain ⟨r, hr⟩ : ∃ r, r = R.length := ⟨_, rfl⟩
  have hmn : m ≤ n := by have := HW.out.2.2.2; rw [HN.out, hm]; exact this
  have hd6 := op6.dk
  have ho6 := op6.own
  have HF6 := Lib.hid (HF5.out.dk hsz HD5.out op6.frm)
  have HJ6 := Lib.hid op6.jn
  rw [← hm] at hd6
  rw [← hR] at ho6 ⊢
  rw [← hr]
  have HD6 := Lib.hid hd6
  have HO6 := Lib.hid ho6
  have HM := Lib.hid hm
  have HR := Lib.hid hR
  have HRL := Lib.hid hr
  have hrn : r ≤ n := by have := recs_len l HL.out.1; rw [hr, hR, HN.out]; omega
  clear op6 hd6 ho6 hm hR hr HF5 HD5
  go_wp2_with fail
  refine (records_any a n cap l F6 w6 (HF6.out.bytes HL.out (by simp)) HN.out hc HNIL.out (by omega) (fun x hx => (HD6.out.lt x hx).2) (fun hne x hx hm => by have h1 := bytes_lt HL.out hne x hx; have h2 := (HD6.out.lt _ hm).1; omega)).mono ?_
  rintro e w7 ⟨aw, cw, vw, rfl, how, hf7⟩
  rw [← HR.out] at how ⊢
  rw [← HRL.out, ← HM.out]
  have HF7 := Lib.hid (HF6.out.trans hf7 (U := []) (by simp) (by simp))
  have HD7 := Lib.hid (HD6.out.keep hf7 (by simp))
  have HJ7 := Lib.hid (HJ6.out.keep hf7 (by simp))
  have HO7 := Lib.hid (HO6.out.keep (F' := F6) hf7 (by simp) (fun x h => .inl h))
  have HQ7 := Lib.hid how
  clear how hf7 HD6 HJ6 HO6 HF6
  have SB := Lib.hid (fun (z : World) (hz : Frm [] w7 z) => same_true ao aw r co cw R F6 F6 z ((HO7.out.ll).keep hz (by simp) (fun x h => .inl h)) ((HQ7.out.ll).keep hz (by simp) (fun x h => .inl h)) HRL.out (by omega))
  have BY := Lib.hid (fun (z : World) (hz : Frm [] w7 z) => dbytes_any (HD7.out.keep hz (by simp)))
  have SU := Lib.hid (fun (z : World) (hz : Frm [] w7 z) => sure_any (HD7.out.keep hz (by simp)))
  have hcut := fun w => run_head_h Try.underlying22 sizeU8 w a n cap m (by omega)
  have htl : (l.take m).length = m := by rw [List.length_take]; have := HN.out; omega
  have cv : ∀ z, Frm [] w7 z → (convert 22 9 (.slice a m cap)).run Try.prog z = .ok (.string (strOf (l.take m))) z := fun z hz =>
    run_to_string Try.underlying22 Try.underlying5 Try.underlying9 ((hz.bytes (HF7.out.bytes HL.out (by simp)) (by simp)).take m) htl.symm
  have HTL := Lib.hid htl; clear htl
  have H8 := Lib.hid HD7.out.1.1
  have f0 : Frm [] w7 w7.drew := (Frm.refl _ _).drew
  have fq : ∀ q, Frm [] w7 (w7.drewN q) := fun q => (Frm.refl _ _).drewN q
  go_wp2_with fail
  refine wp_region_held_drew (S := fun w' => Frm [] w7 w') (by kernel_rfl) (Frm.drew (Frm.refl _ _)) (fun hHeld => ?_)
  refine wpAnyH_take (i := 0) (oi := ⟨some 53, _, _, _, _, _⟩) (v := ?gv0) rfl (by kernel_rfl) (by kernel_rfl) (by kernel_rfl) (fun _ _ _ h => h) (Or.inl ⟨by rfl, ?gy0⟩) (by assumption) ?gr0
  case gy0 => (intro w hSw; (try dsimp only at hSw); go_simp; all_goals with_reducible rfl)
  try simp only [Act.put, List.setIfInBounds_toArray, List.set_cons_zero, List.set_cons_succ]
  refine wpAnyH_take (i := 1) (oi := ⟨some 54, _, _, _, _, _⟩) (v := ?gv1) rfl (by kernel_rfl) (by kernel_rfl) (by kernel_rfl) (fun _ _ _ h => h) (Or.inl ⟨by rfl, ?gy1⟩) (by assumption) ?gr1
  case gy1 => (intro w hSw; (try dsimp only at hSw); go_simp; all_goals with_reducible rfl)
  try simp only [Act.put, List.setIfInBounds_toArray, List.set_cons_zero, List.set_cons_succ]
  refine wpAnyH_take (i := 2) (oi := ⟨some 55, _, _, _, _, _⟩) (v := ?gv2) rfl (by kernel_rfl) (by kernel_rfl) (by kernel_rfl) (fun _ _ _ h => h) (Or.inl ⟨by rfl, ?gy2⟩) (by assumption) ?gr2
  case gy2 => (intro w hSw; (try dsimp only at hSw); go_simp; all_goals with_reducible rfl)
  try simp only [Act.put, List.setIfInBounds_toArray, List.set_cons_zero, List.set_cons_succ]
  refine wpAnyH_take (i := 3) (oi := ⟨some 56, _, _, _, _, _⟩) (v := ?gv3) rfl (by kernel_rfl) (by kernel_rfl) (by kernel_rfl) (fun _ _ _ h => h) (Or.inl ⟨by rfl, ?gy3⟩) (by assumption) ?gr3
  case gy3 => (intro w hSw; (try dsimp only at hSw); go_simp; all_goals with_reducible rfl)
  try simp only [Act.put, List.setIfInBounds_toArray, List.set_cons_zero, List.set_cons_succ]
  refine wpAnyH_take (i := 4) (oi := ⟨some 57, _, _, _, _, _⟩) (v := ?gv4) rfl (by kernel_rfl) (by kernel_rfl) (by kernel_rfl) (fun _ _ _ h => h) (Or.inl ⟨by rfl, ?gy4⟩) (by assumption) ?gr4
  case gy4 => (intro w hSw; (try dsimp only at hSw); go_simp; all_goals with_reducible rfl)
  try simp only [Act.put, List.setIfInBounds_toArray, List.set_cons_zero, List.set_cons_succ]
  refine wpAnyH_take (i := 5) (oi := ⟨some 58, _, _, _, _, _⟩) (v := ?gv5) rfl (by kernel_rfl) (by kernel_rfl) (by kernel_rfl) (fun _ _ _ h => h) (Or.inl ⟨by rfl, ?gy5⟩) (by assumption) ?gr5
  case gy5 => (intro w hSw; (try dsimp only at hSw); go_simp; all_goals with_reducible rfl)
  try simp only [Act.put, List.setIfInBounds_toArray, List.set_cons_zero, List.set_cons_succ]
  refine wpAnyH_take (i := 6) (oi := ⟨some 59, _, _, _, _, _⟩) (v := ?gv6) rfl (by kernel_rfl) (by kernel_rfl) (by kernel_rfl) (fun _ _ _ h => h) (Or.inl ⟨by rfl, ?gy6⟩) (by assumption) ?gr6
  case gy6 => (intro w hSw; (try dsimp only at hSw); go_simp; all_goals with_reducible rfl)
  try simp only [Act.put, List.setIfInBounds_toArray, List.set_cons_zero, List.set_cons_succ]
  refine wpAnyH_take (i := 7) (oi := ⟨some 60, _, _, _, _, _⟩) (v := ?gv7) rfl (by kernel_rfl) (by kernel_rfl) (by kernel_rfl) (fun _ _ _ h => h) (Or.inl ⟨by rfl, ?gy7⟩) (by assumption) ?gr7
  case gy7 => (intro w hSw; (try dsimp only at hSw); go_simp; all_goals with_reducible rfl)
  try simp only [Act.put, List.setIfInBounds_toArray, List.set_cons_zero, List.set_cons_succ]
  refine wpAnyH_take (i := 8) (oi := ⟨some 61, _, _, _, _, _⟩) (v := ?gv8) rfl (by kernel_rfl) (by kernel_rfl) (by kernel_rfl) (fun _ _ _ h => h) (Or.inl ⟨by rfl, ?gy8⟩) (by assumption) ?gr8
  case gy8 => (intro w hSw; (try dsimp only at hSw); go_simp; all_goals with_reducible rfl)
  try simp only [Act.put, List.setIfInBounds_toArray, List.set_cons_zero, List.set_cons_succ]
  refine wpAnyH_ready (rs := [9]) (by kernel_rfl) (by simp) ?_
  refine AllReadyH.cons (o := ⟨some 62, _, _, _, _, _⟩) rfl (fun K hK => ?_) AllReadyH.nil
  go_simp
  (go_at_call 14; (with_reducible refine (SB.out _ (by assumption)).mono ?_); rintro e ws ⟨rfl, d1, rfl⟩; have f1 : Frm [] w7 _ := fq (1 + d1))
  go_wp2_with fail
  refine hK.out _ _ (by assumption) (fun hHeld => ?_)
  clear hK K
  try simp only [Act.put, List.setIfInBounds_toArray, List.set_cons_zero, List.set_cons_succ]
  refine wpAnyH_take (i := 10) (oi := ⟨some 63, _, _, _, _, _⟩) (v := ?gv10) rfl (by kernel_rfl) (by kernel_rfl) (by kernel_rfl) (fun _ _ _ h => h) (Or.inl ⟨by rfl, ?gy10⟩) (by assumption) ?gr10
  case gy10 => (intro w hSw; (try dsimp only at hSw); go_simp; all_goals with_reducible rfl)
  try simp only [Act.put, List.setIfInBounds_toArray, List.set_cons_zero, List.set_cons_succ]
  refine wpAnyH_take (i := 11) (oi := ⟨some 64, _, _, _, _, _⟩) (v := ?gv11) rfl (by kernel_rfl) (by kernel_rfl) (by kernel_rfl) (fun _ _ _ h => h) (Or.inl ⟨by rfl, ?gy11⟩) (by assumption) ?gr11
  case gy11 => (intro w hSw; (try dsimp only at hSw); go_simp; all_goals with_reducible rfl)
  try simp only [Act.put, List.setIfInBounds_toArray, List.set_cons_zero, List.set_cons_succ]
  refine wpAnyH_take (i := 12) (oi := ⟨some 65, _, _, _, _, _⟩) (v := ?gv12) rfl (by kernel_rfl) (by kernel_rfl) (by kernel_rfl) (fun _ _ _ h => h) (Or.inl ⟨by rfl, ?gy12⟩) (by assumption) ?gr12
  case gy12 => (intro w hSw; (try dsimp only at hSw); go_simp; all_goals with_reducible rfl)
  try simp only [Act.put, List.setIfInBounds_toArray, List.set_cons_zero, List.set_cons_succ]
  refine wpAnyH_take (i := 13) (oi := ⟨some 66, _, _, _, _, _⟩) (v := ?gv13) rfl (by kernel_rfl) (by kernel_rfl) (by kernel_rfl) (fun _ _ _ h => h) (Or.inl ⟨by rfl, ?gy13⟩) (by assumption) ?gr13
  case gy13 => (intro w hSw; (try dsimp only at hSw); go_simp; all_goals with_reducible rfl)
  try simp only [Act.put, List.setIfInBounds_toArray, List.set_cons_zero, List.set_cons_succ]
  refine wpAnyH_take (i := 16) (oi := ⟨some 69, _, _, _, _, _⟩) (v := ?gv16) rfl (by kernel_rfl) (by kernel_rfl) (by kernel_rfl) (fun _ _ _ h => h) (Or.inl ⟨by rfl, ?gy16⟩) (by assumption) ?gr16
  case gy16 => (intro w hSw; (try dsimp only at hSw); go_simp; all_goals with_reducible rfl)
  try simp only [Act.put, List.setIfInBounds_toArray, List.set_cons_zero, List.set_cons_succ]
  refine wpAnyH_take (i := 17) (oi := ⟨some 70, _, _, _, _, _⟩) (v := ?gv17) rfl (by kernel_rfl) (by kernel_rfl) (by kernel_rfl) (fun _ _ _ h => h) (Or.inl ⟨by rfl, ?gy17⟩) (by assumption) ?gr17
  case gy17 => (intro w hSw; (try dsimp only at hSw); go_simp; all_goals with_reducible rfl)
  try simp only [Act.put, List.setIfInBounds_toArray, List.set_cons_zero, List.set_cons_succ]
  refine wpAnyH_take (i := 18) (oi := ⟨some 71, _, _, _, _, _⟩) (v := ?gv18) rfl (by kernel_rfl) (by kernel_rfl) (by kernel_rfl) (fun _ _ _ h => h) (Or.inl ⟨by rfl, ?gy18⟩) (by assumption) ?gr18
  case gy18 => (intro w hSw; (try dsimp only at hSw); go_simp; all_goals with_reducible rfl)
  try simp only [Act.put, List.setIfInBounds_toArray, List.set_cons_zero, List.set_cons_succ]
  refine wpAnyH_take (i := 19) (oi := ⟨some 72, _, _, _, _, _⟩) (v := ?gv19) rfl (by kernel_rfl) (by kernel_rfl) (by kernel_rfl) (fun _ _ _ h => h) (Or.inl ⟨by rfl, ?gy19⟩) (by assumption) ?gr19
  case gy19 => (intro w hSw; (try dsimp only at hSw); go_simp; all_goals with_reducible rfl)
  try simp only [Act.put, List.setIfInBounds_toArray, List.set_cons_zero, List.set_cons_succ]
  refine wpAnyH_ready (rs := [14]) (by kernel_rfl) (by simp) ?_
  refine AllReadyH.cons (o := ⟨some 67, _, _, _, _, _⟩) rfl (fun K hK => ?_) AllReadyH.nil
  go_simp
  (go_at_call 15; (with_reducible refine (BY.out _ (by assumption)).mono ?_); rintro e wd ⟨ab, cb, rfl, hod, hfd⟩; rw [HTL.out] at hod ⊢; have f2 : Frm [] w7 wd := Frm.trans (by assumption) hfd (by simp) (by simp); have cv2 := run_to_string (P := Try.prog) (src := 22) (dst := 9) (e := 5) Try.underlying22 Try.underlying5 Try.underlying9 (n := m) (c := cb) (bytes_of_own hod H8.out).2.1 HTL.out.symm)
  go_wp2_with fail
  refine hK.out _ _ (by assumption) (fun hHeld => ?_)
  clear hK K
  try simp only [Act.put, List.setIfInBounds_toArray, List.set_cons_zero, List.set_cons_succ]
  refine wpAnyH_ready (rs := [15]) (by kernel_rfl) (by simp) ?_
  refine AllReadyH.cons (o := ⟨some 68, _, _, _, _, _⟩) rfl (fun K hK => ?_) AllReadyH.nil
  go_simp
  refine hK.out _ _ (by assumption) (fun hHeld => ?_)
  clear hK K
  try simp only [Act.put, List.setIfInBounds_toArray, List.set_cons_zero, List.set_cons_succ]
  refine wpAnyH_take (i := 20) (oi := ⟨some 73, _, _, _, _, _⟩) (v := ?gv20) rfl (by kernel_rfl) (by kernel_rfl) (by kernel_rfl) (fun _ _ _ h => h) (Or.inl ⟨by rfl, ?gy20⟩) (by assumption) ?gr20
  case gy20 => (intro w hSw; (try dsimp only at hSw); go_simp; all_goals with_reducible rfl)
  try simp only [Act.put, List.setIfInBounds_toArray, List.set_cons_zero, List.set_cons_succ]
  refine wpAnyH_take (i := 21) (oi := ⟨some 74, _, _, _, _, _⟩) (v := ?gv21) rfl (by kernel_rfl) (by kernel_rfl) (by kernel_rfl) (fun _ _ _ h => h) (Or.inl ⟨by rfl, ?gy21⟩) (by assumption) ?gr21
  case gy21 => (intro w hSw; (try dsimp only at hSw); go_simp; all_goals with_reducible rfl)
  try simp only [Act.put, List.setIfInBounds_toArray, List.set_cons_zero, List.set_cons_succ]
  refine wpAnyH_take (i := 22) (oi := ⟨some 75, _, _, _, _, _⟩) (v := ?gv22) rfl (by kernel_rfl) (by kernel_rfl) (by kernel_rfl) (fun _ _ _ h => h) (Or.inl ⟨by rfl, ?gy22⟩) (by assumption) ?gr22
  case gy22 => (intro w hSw; (try dsimp only at hSw); go_simp; all_goals with_reducible rfl)
  try simp only [Act.put, List.setIfInBounds_toArray, List.set_cons_zero, List.set_cons_succ]
  refine wpAnyH_take (i := 23) (oi := ⟨some 76, _, _, _, _, _⟩) (v := ?gv23) rfl (by kernel_rfl) (by kernel_rfl) (by kernel_rfl) (fun _ _ _ h => h) (Or.inl ⟨by rfl, ?gy23⟩) (by assumption) ?gr23
  case gy23 => (intro w hSw; (try dsimp only at hSw); go_simp; all_goals with_reducible rfl)
  try simp only [Act.put, List.setIfInBounds_toArray, List.set_cons_zero, List.set_cons_succ]
  refine wpAnyH_take (i := 25) (oi := ⟨some 78, _, _, _, _, _⟩) (v := ?gv25) rfl (by kernel_rfl) (by kernel_rfl) (by kernel_rfl) (fun _ _ _ h => h) (Or.inl ⟨by rfl, ?gy25⟩) (by assumption) ?gr25
  case gy25 => (intro w hSw; (try dsimp only at hSw); go_simp; all_goals with_reducible rfl)
  try simp only [Act.put, List.setIfInBounds_toArray, List.set_cons_zero, List.set_cons_succ]
  refine wpAnyH_ready (rs := [24]) (by kernel_rfl) (by simp) ?_
  refine AllReadyH.cons (o := ⟨some 77, _, _, _, _, _⟩) rfl (fun K hK => ?_) AllReadyH.nil
  go_simp
  (go_at_call 16; (with_reducible refine (SU.out _ (by assumption)).mono ?_); rintro e wz ⟨rfl, rfl⟩)
  go_wp2_with fail
  refine hK.out _ _ (by assumption) (fun hHeld => ?_)
  clear hK K
  try simp only [Act.put, List.setIfInBounds_toArray, List.set_cons_zero, List.set_cons_succ]
  refine wpAnyH_take (i := 26) (oi := ⟨some 79, _, _, _, _, _⟩) (v := ?gv26) rfl (by kernel_rfl) (by kernel_rfl) (by kernel_rfl) (fun _ _ _ h => h) (Or.inl ⟨by rfl, ?gy26⟩) (by assumption) ?gr26
  case gy26 => (intro w hSw; (try dsimp only at hSw); go_simp; all_goals with_reducible rfl)
  try simp only [Act.put, List.setIfInBounds_toArray, List.set_cons_zero, List.set_cons_succ]
  refine wpAnyH_take (i := 27) (oi := ⟨some 80, _, _, _, _, _⟩) (v := ?gv27) rfl (by kernel_rfl) (by kernel_rfl) (by kernel_rfl) (fun _ _ _ h => h) (Or.inl ⟨by rfl, ?gy27⟩) (by assumption) ?gr27
  case gy27 => (intro w hSw; (try dsimp only at hSw); go_simp; all_goals with_reducible rfl)
  try simp only [Act.put, List.setIfInBounds_toArray, List.set_cons_zero, List.set_cons_succ]
  refine wpAnyH_done (by kernel_rfl) ?_ _
  have HF8 := Lib.hid (HF7.out.trans f2 (U := []) (by simp) (by simp))
  have HD8 := Lib.hid (HD7.out.keep f2 (by simp))
  have HJ8 := Lib.hid (HJ7.out.keep f2 (by simp))
  have HQ8 := Lib.hid (HQ7.out.keep (F' := F6) f2 (by simp) (fun x h => .inl h))
  have hjc : jc (l.take m) moreL 10000 = 0 := by
    unfold jc
    rw [HTL.out, if_neg (by decide), if_neg (by show ¬ 10000 < m + (4 + 8); omega)]
  have hjl : jl (l.take m) moreL 10000 = l.take m ++ fr moreL ∧ js (l.take m) moreL m 10000 = (l.take m ++ fr moreL).length := by
    unfold jl js; rw [if_pos hjc, if_pos hjc]; exact ⟨rfl, rfl⟩
  have HJC := Lib.hid hjc
  have HJL := Lib.hid hjl
  have kc := fun (w : World) (C : Array Value) (n c : Nat) => Lib.run_convert_bytes_const (P := Try.prog) w 22 5 C n c Try.underlying22 Try.underlying5
  clear hjc hjl cv cv2 f0 f1 f2 fq hHeld hcut hod hfd
  go_wp2_with fail
  have fm : Frm [] wd (wd.alloc (.cells #[.int .u8 109, .int .u8 111, .int .u8 114, .int .u8 101] 5 (4, 5))) := (Frm.refl _ _).alloc _
  refine (jwrite_any _ _ _ moreL (HD8.out.keep fm (by simp)) (HJ8.out.keep fm (by simp)) (more_const wd 5) rfl (by simp)).mono ?_
  rintro e w9 ⟨rfl, hd9⟩
  rw [HJC.out]
  rw [HJL.out.1, HJL.out.2] at hd9
  obtain ⟨F9, hd9, hf9, hx9⟩ := hd9.early fm
  have HF9 := Lib.hid (HF8.out.dk hsz HD8.out hf9)
  have HD9 := Lib.hid hd9
  have HQ9 := Lib.hid (HQ8.out.keep (F' := F9) hf9 (fun x h => .inl h) hx9)
  clear hd9 hf9 hx9 fm HF8 HD8 HJ8 HQ8
  go_wp2_with fail
  refine (jopen_any HD9.out).mono ?_
  rintro e wA ⟨qA, FA, aA, cA, vA, rfl, opA⟩
  have hoA := opA.own
  have hRA : recs (l.take m ++ fr moreL) = R ++ [moreL] := by rw [HM.out, HR.out]; exact recs_more l HL.out.1
  rw [hRA] at hoA ⊢
  have HFA := Lib.hid (HF9.out.dk hsz HD9.out opA.frm)
  have HOA := Lib.hid hoA
  have HQA := Lib.hid (HQ9.out.keep (F' := FA) opA.frm (fun x h => .inl h) (fun x h => opA.new x h))
  have hrl : (R ++ [moreL]).length = r + 1 := by rw [List.length_append, HRL.out]; rfl
  rw [hrl]
  have HRL2 := Lib.hid hrl
  clear opA hoA hRA hrl HF9 HD9 HQ9
  obtain ⟨vq, hvq, heq, haq⟩ := HQA.out.ll
  have hwlit : (wA.alloc (.cells #[] 22)).ownsRow w.heap.size 22 1 (.slice (some ⟨wA.heap.size, 0, none⟩) 0 0) 0 [] := World.ownsRow_lit wA #[] 0 HFA.out.size (by unfold maxLen; omega) rfl
  have hfl : Frm [] wA (wA.alloc (.cells #[] 22)) := (Frm.refl _ _).alloc _
  have hvq2 := hvq.keep hfl (by simp)
  have heq2 := heq.keep (F' := [wA.heap.size]) hfl (by simp) (by simp)
  have hlen : r = vq.length := by rw [heq.len]; exact HRL.out
  have OL : OwnL (wA.alloc (.cells #[] 22)) w.heap.size 22 [] (some ⟨wA.heap.size, 0, none⟩) 0 [] [] := ⟨hwlit, Ents.nil _ _, by simp⟩
  have HV := Lib.hid hvq2
  have HE := Lib.hid heq2
  have HLN := Lib.hid hlen
  have HWL := Lib.hid hwlit
  have HOL := Lib.hid OL
  have HB0 := Lib.hid (Nat.le_trans HFA.out.size hfl.size)
  clear hvq heq haq hwlit hfl hvq2 heq2 hlen OL
  have hfit0 : 0 + r ≤ 1000000000 := by omega
  go_wp2_with (at_builtin; refine wpList_appW (by rfl) (.tmp 96) (.tmp 97) 31 rfl w.heap.size 22 i0 (.slice none 0 0) 24 Try.underlying31 HI.out HZ0.out rfl HZ1.out HZ2.out (by decide) (.slice (some ⟨wA.heap.size, 0, none⟩) 0 0) 0 [] rfl HWL.out _ r cw vq rfl HV.out HLN.out HE.out.one' HQA.out.caps.2.2 hfit0 HB0.out ?_)
  intro aB cB wB happ
  obtain ⟨g1, g2, g3, g4⟩ := HOL.out.app (M := R) rfl (HE.out.less' (by simp)) HRL.out (by simp) happ
  rw [List.nil_append] at g1
  have HFB := Lib.hid ((HFA.out.alloc (.cells #[] 22)).trans g2 (U := []) (by simp) (fun x hx => .inr (by simp at hx; have := HFA.out.size; omega)))
  have HAB := Lib.hid (((Frm.refl [] wA).alloc (.cells #[] 22)).trans g2 (U := []) (by simp) (fun x hx => .inr (by simp at hx; omega)))
  have HOB := Lib.hid g1
  have HGB : Hid (∀ x ∈ blk aB, wA.heap.size ≤ x) := Lib.hid fun x hx => by
    rcases g3 x hx with h | h
    · simp at h; omega
    · simp at h; omega
  clear happ g1 g2 g3 g4 HV HE HLN HWL HOL HB0 hfit0
  obtain ⟨wC, hwC⟩ : ∃ wC, wC = wB.alloc (.cells #[.int .u8 109, .int .u8 111, .int .u8 114, .int .u8 101] 5 (4, 5)) := ⟨_, rfl⟩
  obtain ⟨wD, hwD⟩ : ∃ wD, wD = wC.alloc (.cells #[.slice (some ⟨wB.heap.size, 0, none⟩) 4 4] 22) := ⟨_, rfl⟩
  have hbC : Bytes wC (some ⟨wB.heap.size, 0, none⟩) moreL := by rw [hwC]; exact more_const wB 5
  have hfC : Frm [] wB wC := by rw [hwC]; exact (Frm.refl _ _).alloc _
  have hfD : Frm [] wC wD := by rw [hwD]; exact (Frm.refl _ _).alloc _
  have hvD : ValsAt wD (some ⟨wC.heap.size, 0, none⟩) [.slice (some ⟨wB.heap.size, 0, none⟩) 4 4] := by rw [hwD]; exact ValsAt.one _ _ _
  have hsC : wC.heap.size = wB.heap.size + 1 := by rw [hwC]; simp
  have hfBD := hfC.trans hfD (U := []) (by simp) (by simp)
  have hoD := HOB.out.keep (F' := []) hfBD (by simp) (by simp)
  have heD : Ents wD (blk aB ++ []) [.slice (some ⟨wB.heap.size, 0, none⟩) 4 4] [moreL] := Ents.sole (hfD.bytes hbC (by simp)) rfl (fun h => by cases h) (fun _ x hx hm => by
    cases hx
    simp only [List.append_nil] at hm
    have := (HOB.out.blk_lt _ hm).2
    simp at this)
  have hFD := HFB.out.trans hfBD (U := []) (by simp) (by simp)
  have hAD := HAB.out.trans hfBD (U := []) (by simp) (by simp)
  have HVD := Lib.hid hvD
  have HED := Lib.hid heD
  have HOD := Lib.hid hoD
  have HWD := Lib.hid hoD.own
  rw [← HRL.out] at HWD
  have HFD := Lib.hid hFD
  have HAD := Lib.hid hAD
  have HB1 := Lib.hid hFD.size
  rw [hsC] at HVD
  rw [hwC] at hwD
  have HWE := Lib.hid hwD
  clear hvD heD hoD hFD hAD hfBD hfD hfC hbC hsC hwC hwD HAB HFB HOB
  have hfit1 : r + 1 ≤ 1000000000 := by omega
  go_wp2_with (at_builtin; rw [← HWE.out]; refine wpList_appW (by rfl) (.tmp 98) (.tmp 101) 31 rfl w.heap.size 22 i0 (.slice none 0 0) 24 Try.underlying31 HI.out HZ0.out rfl HZ1.out HZ2.out (by decide) (.slice aB r cB) r ([] ++ vq) rfl HWD.out _ 1 1 _ rfl HVD.out rfl HED.out.one' (fun h => by cases h) hfit1 HB1.out ?_)
  intro aE cE wE happ
  obtain ⟨g1, g2, g3, g4⟩ := HOD.out.app HRL.out HED.out rfl (by simp) happ
  have HFE := Lib.hid (HFD.out.trans g2 (U := []) (by simp) (fun x hx => .inr (HOD.out.blk_lt x hx).1))
  have HLE := Lib.hid g1.ll
  have hAE := HAD.out.trans g2 (U := blk aB) (by simp) (fun x hx => .inl hx)
  have HLA := Lib.hid ((HOA.out.ll).keep (F' := []) hAE (fun x hx => .inr (HGB.out x hx)) (by simp))
  clear happ g1 g2 g3 g4 hAE
  go_wp2_with fail
  refine (same_true _ _ _ _ _ _ _ _ _ HLA.out HLE.out HRL2.out.symm (by omega)).mono ?_
  rintro e wF ⟨rfl, d, rfl⟩
  go_wp2
  go_ret
  exact ⟨rfl, (HFE.out.drewN d).new⟩

theorem journalOpens_walk (a : Option Addr) (n cap : Nat) (l : List Nat) (s : Nat) (w : World) (hn : n = l.length) (hl : Bytes w a l) (hc : n ≤ cap) (hnil : a = none → cap = 0) (hs : s < 65536) :
    Calls Try.prog 3 #[.slice a n cap, .int .u16 (s : Nat)] w fun e w' => e = .returned (.bool true) ∧ Below w.heap.size w w' := by
  by_cases h : 6000 < n
  · exact journalOpens_long a n cap s w h (by have := hl.2.1; omega)
  · exact journalOpens_main a n cap l s w hn hl hc hnil hs (by omega)
end Go.Proofs.Yteidfplenleogaa
