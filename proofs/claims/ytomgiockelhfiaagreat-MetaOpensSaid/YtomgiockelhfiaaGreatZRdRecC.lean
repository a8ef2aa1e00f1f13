/- Contract of the document's Record: a command's own record. -/
import Derived.Test.YtomgiockelhfiaaGreatMX
import Derived.Test.YtomgiockelhfiaaGreatZRdRec
import Derived.Lib.ConvBytes
namespace Go.Proofs.YtomgiockelhfiaaGreat
open Go.RowKit
set_option maxRecDepth 100000
theorem Rw.less {w w0 z : World} {a : Option Addr} {cap : Nat} {l : List Nat} (h : Rw w0 z a cap l) (hf : Frm [] w w0) : Rw w z a cap l :=
  ⟨own_base h.own hf.size, hf.trans h.frm (by simp) (by simp), fun x hx => Nat.le_trans hf.size (h.new x hx)⟩
set_option maxHeartbeats 8000000 in
theorem rrec_cmd {w : World} {q : Nat} {S : MS} (c : MC) (a : Option Addr) (cap : Nat) (hc : MCOk c) (hb : Bytes w a c.val) (hnil : a = none → cap = 0) (hk : c.kind ≠ 7) :
    Calls Tryz.prog 20 #[.pointer (some ⟨q, 0, none⟩), cmdV c a cap] w (RwE w (recB S c)) := by
  obtain ⟨w0, hw0⟩ : ∃ w0, w0 = w.alloc (.cells (cmdC c a cap) 51) := ⟨_, rfl⟩
  obtain ⟨g, hg⟩ : ∃ g, g = w.heap.size := ⟨_, rfl⟩
  obtain ⟨hW, hf0⟩ := cmd_at hw0 hg
  have HCE := Lib.hid (fun (z : World) (hz : Frm [] w0 z) => hz.whole hW (by simp))
  have E0 : w0.cell? ⟨g, 0, none⟩ = some (.int .u8 (c.kind : Nat)) := hW.cell 0
  have E1 : ∀ y, Frm [] w0 y → y.cell? ⟨g, 1, none⟩ = some (.string c.key) := fun y hy => (HCE.out y hy).cell 1
  have E2 : ∀ y, Frm [] w0 y → y.cell? ⟨g, 2, none⟩ = some (.slice a c.val.length cap) := fun y hy => (HCE.out y hy).cell 2
  have E3 : ∀ y, Frm [] w0 y → y.cell? ⟨g, 3, none⟩ = some (.int .u64 (c.want : Nat)) := fun y hy => (HCE.out y hy).cell 3
  have E4 : ∀ y, Frm [] w0 y → y.cell? ⟨g, 4, none⟩ = some (.int .u64 (c.ses : Nat)) := fun y hy => (HCE.out y hy).cell 4
  have E5 : ∀ y, Frm [] w0 y → y.cell? ⟨g, 5, none⟩ = some (.int .u64 (c.ticks : Nat)) := fun y hy => (HCE.out y hy).cell 5
  have HE1 := Lib.hid E1
  have HE2 := Lib.hid E2
  have HE3 := Lib.hid E3
  have HE4 := Lib.hid E4
  have HE5 := Lib.hid E5
  have hb0 := hf0.bytes' hb (by simp)
  have BV := Lib.hid (fun (z : World) (hz : Frm [] w0 z) => hz.bytes' hb0 (by simp))
  have NV := Lib.hid (fun (l : List Nat) (hz : ∀ x ∈ l, w0.heap.size ≤ x) => (show c.val ≠ [] → ∀ x, a = some x → x.block ∉ l from fun hne x hx hm => by have h1 := bytes_lt hb0 hne x hx; have h2 := hz _ hm; omega))
  have HF0 := Lib.hid hf0
  have HC := Lib.hid hc
  have HNIL := Lib.hid hnil
  have HW := Lib.hid hw0
  have HG := Lib.hid hg
  have HK := Lib.hid hk
  obtain ⟨Q, hQ⟩ : ∃ Q, Q = RwE w (recB S c) := ⟨_, rfl⟩
  have HQ := Lib.hid hQ
  rw [← hQ]
  have bk : ((c.kind : Int) == 7) = false := by rw [beq_eq_false_iff_ne]; have := HK.out; omega
  have bn : ((c.kind : Int) != 7) = true := by simp only [bne, bk]; rfl
  have ew : IntKind.u64.wrap (c.kind : Int) = (c.kind : Int) := by have := HC.out.kind; simp [IntKind.wrap, IntKind.bits, IntKind.signed]; omega
  have ew2 : (c.kind : Int) % 18446744073709551616 = (c.kind : Int) := by have := HC.out.kind; omega
  rw [show cmdV c a cap = .agg #[.int .u8 (c.kind : Nat), .string c.key, .slice a c.val.length cap, .int .u64 (c.want : Nat), .int .u64 (c.ses : Nat), .int .u64 (c.ticks : Nat)] from rfl]
  rw [show cmdC c a cap = #[.int .u8 (c.kind : Nat), .string c.key, .slice a c.val.length cap, .int .u64 (c.want : Nat), .int .u64 (c.ses : Nat), .int .u64 (c.ticks : Nat)] from rfl] at HW
  have E0' := E0
  rw [HW.out, HG.out] at E0'
  clear hc hb hnil hk hW hf0 hb0 hQ hw0 hg E0 E1 E2 E3 E4 E5 HCE
  go_enter Tryz.func20, Tryz.ntmps20
  go_wp2_with fail
  rw [← HW.out, ← HG.out]
  (with_reducible refine (re_put (n0 := 0) c.kind 1 1 rfl (Rw.start w0) rfl (by have := HC.out.kind; omega) (by omega) (by simp)).mono ?_)
  rintro e w1 ⟨a1, n1, c1, L1, rfl, R1⟩
  have S1 : Frm [] w0 w1 := R1.out.frm
  have d0 : w1.cell? ⟨g, 0, none⟩ = some (.int .u8 (c.kind : Nat)) := (S1.cell (p := ⟨g, 0, none⟩) (by have := HG.out; rw [HW.out, HG.out]; simp) (by simp)).trans (by rw [HW.out, HG.out]; exact E0')
  clear E0'
  go_wp2
  clear d0
  have E1 := HE1.out
  have E2 := HE2.out
  have hcv := fun (w : World) => Lib.run_convert_string_bytes (P := Tryz.prog) w 9 35 5 c.key Tryz.underlying9 Tryz.underlying35 Tryz.underlying5
  refine wp_region_held_drew (S := fun w' => Frm [] w0 w') (by kernel_rfl) (Frm.drew S1) (fun hHeld => ?_)
  refine wpAnyH_take (i := 0) (oi := ⟨some 17, _, _, _, _, _⟩) (v := ?_) rfl (by kernel_rfl) (by kernel_rfl) (by kernel_rfl) (fun _ _ _ h => h) (Or.inl ⟨by rfl, ?_⟩) (by assumption) ?_
  rotate_left 1
  · (intro w hSw; (try dsimp only at hSw); go_simp; all_goals with_reducible rfl)
  try simp only [Act.put, List.setIfInBounds_toArray, List.set_cons_zero, List.set_cons_succ]
  refine wpAnyH_take (i := 1) (oi := ⟨some 18, _, _, _, _, _⟩) (v := ?_) rfl (by kernel_rfl) (by kernel_rfl) (by kernel_rfl) (fun _ _ _ h => h) (Or.inl ⟨by rfl, ?_⟩) (by assumption) ?_
  rotate_left 1
  · (intro w hSw; (try dsimp only at hSw); go_simp; all_goals with_reducible rfl)
  try simp only [Act.put, List.setIfInBounds_toArray, List.set_cons_zero, List.set_cons_succ]
  refine wpAnyH_take (i := 2) (oi := ⟨some 19, _, _, _, _, _⟩) (v := ?_) rfl (by kernel_rfl) (by kernel_rfl) (by kernel_rfl) (fun _ _ _ h => h) (Or.inl ⟨by rfl, ?_⟩) (by assumption) ?_
  rotate_left 1
  · (intro w hSw; (try dsimp only at hSw); go_simp; all_goals with_reducible rfl)
  try simp only [Act.put, List.setIfInBounds_toArray, List.set_cons_zero, List.set_cons_succ]
  refine wpAnyH_take (i := 5) (oi := ⟨some 22, _, _, _, _, _⟩) (v := ?_) rfl (by kernel_rfl) (by kernel_rfl) (by kernel_rfl) (fun _ _ _ h => h) (Or.inl ⟨by rfl, ?_⟩) (by assumption) ?_
  rotate_left 1
  · (intro w hSw; (try dsimp only at hSw); go_simp; all_goals with_reducible rfl)
  try simp only [Act.put, List.setIfInBounds_toArray, List.set_cons_zero, List.set_cons_succ]
  refine wpAnyH_take (i := 6) (oi := ⟨some 23, _, _, _, _, _⟩) (v := ?_) rfl (by kernel_rfl) (by kernel_rfl) (by kernel_rfl) (fun _ _ _ h => h) (Or.inl ⟨by rfl, ?_⟩) (by assumption) ?_
  rotate_left 1
  · (intro w hSw; (try dsimp only at hSw); go_simp; all_goals with_reducible rfl)
  try simp only [Act.put, List.setIfInBounds_toArray, List.set_cons_zero, List.set_cons_succ]
  refine wpAnyH_ready (rs := [3]) (by kernel_rfl) (by simp) ?_
  refine AllReadyH.cons (o := ⟨some 20, _, _, _, _, _⟩) rfl (fun K hK => ?_) AllReadyH.nil
  go_simp
  have Sb : Frm [] w0 (Lib.bytesWorld w1.drew 5 c.key) := S1.drew.trans (conv_frm _ _ _) (by simp) (by simp)
  refine hK.out _ _ (by assumption) (fun hHeld => ?_)
  clear hK K
  try simp only [Act.put, List.setIfInBounds_toArray, List.set_cons_zero, List.set_cons_succ]
  refine wpAnyH_ready (rs := [4]) (by kernel_rfl) (by simp) ?_
  refine AllReadyH.cons (o := ⟨some 21, _, _, _, _, _⟩) rfl (fun K hK => ?_) AllReadyH.nil
  go_simp
  (go_at_call 58; (refine (re_text (z := w1.drew) c.key (R1.out.keep (Frm.refl _ _).drew) L1.out rfl (by have := HC.out.key; omega) (by simp [be_length])).mono ?_); rintro e w2 ⟨a2, n2, c2, L2, rfl, R2⟩; have S2 : Frm [] w0 w2 := R2.out.frm)
  go_wp2_with fail
  refine hK.out _ _ (by assumption) (fun hHeld => ?_)
  clear hK K
  try simp only [Act.put, List.setIfInBounds_toArray, List.set_cons_zero, List.set_cons_succ]
  refine wpAnyH_ready (rs := [7]) (by kernel_rfl) (by simp) ?_
  refine AllReadyH.cons (o := ⟨some 24, _, _, _, _, _⟩) rfl (fun K hK => ?_) AllReadyH.nil
  go_simp
  (go_at_call 58; (with_reducible refine (re_bytes a c.val.length cap c.val R2.out L2.out (BV.out _ R2.out.frm) (NV.out _ R2.out.new) rfl HNIL.out (by have := HC.out.key; simp [be_length, cb, strL_length]; omega) (by have := HC.out.val.1; omega)).mono ?_); rintro e w3 ⟨a3, n3, c3, L3, rfl, R3⟩; have S3 : Frm [] w0 w3 := R3.out.frm)
  go_wp2_with fail
  refine hK.out _ _ (by assumption) (fun hHeld => ?_)
  clear hK K
  try simp only [Act.put, List.setIfInBounds_toArray, List.set_cons_zero, List.set_cons_succ]
  refine wpAnyH_take (i := 8) (oi := ⟨some 5, _, _, _, _, _⟩) (v := ?_) rfl (by kernel_rfl) (by kernel_rfl) (by kernel_rfl) (fun _ _ _ h => h) (Or.inl ⟨by rfl, ?_⟩) (by assumption) ?_
  rotate_left 1
  · (intro w hSw; (try dsimp only at hSw); go_simp; all_goals with_reducible rfl)
  try simp only [Act.put, List.setIfInBounds_toArray, List.set_cons_zero, List.set_cons_succ]
  refine wpAnyH_done (by kernel_rfl) ?_ _
  clear E1 E2
  go_wp2
  have E3 := HE3.out
  have E4 := HE4.out
  have E5 := HE5.out
  refine wp_region_held_drew (S := fun w' => Frm [] w0 w') (by kernel_rfl) (Frm.drew S3) (fun hHeld => ?_)
  refine wpAnyH_take (i := 0) (oi := ⟨some 25, _, _, _, _, _⟩) (v := ?_) rfl (by kernel_rfl) (by kernel_rfl) (by kernel_rfl) (fun _ _ _ h => h) (Or.inl ⟨by rfl, ?_⟩) (by assumption) ?_
  rotate_left 1
  · (intro w hSw; (try dsimp only at hSw); go_simp; all_goals with_reducible rfl)
  try simp only [Act.put, List.setIfInBounds_toArray, List.set_cons_zero, List.set_cons_succ]
  refine wpAnyH_take (i := 1) (oi := ⟨some 26, _, _, _, _, _⟩) (v := ?_) rfl (by kernel_rfl) (by kernel_rfl) (by kernel_rfl) (fun _ _ _ h => h) (Or.inl ⟨by rfl, ?_⟩) (by assumption) ?_
  rotate_left 1
  · (intro w hSw; (try dsimp only at hSw); go_simp; all_goals with_reducible rfl)
  try simp only [Act.put, List.setIfInBounds_toArray, List.set_cons_zero, List.set_cons_succ]
  refine wpAnyH_take (i := 2) (oi := ⟨some 27, _, _, _, _, _⟩) (v := ?_) rfl (by kernel_rfl) (by kernel_rfl) (by kernel_rfl) (fun _ _ _ h => h) (Or.inl ⟨by rfl, ?_⟩) (by assumption) ?_
  rotate_left 1
  · (intro w hSw; (try dsimp only at hSw); go_simp; all_goals with_reducible rfl)
  try simp only [Act.put, List.setIfInBounds_toArray, List.set_cons_zero, List.set_cons_succ]
  refine wpAnyH_take (i := 4) (oi := ⟨some 29, _, _, _, _, _⟩) (v := ?_) rfl (by kernel_rfl) (by kernel_rfl) (by kernel_rfl) (fun _ _ _ h => h) (Or.inl ⟨by rfl, ?_⟩) (by assumption) ?_
  rotate_left 1
  · (intro w hSw; (try dsimp only at hSw); go_simp; all_goals with_reducible rfl)
  try simp only [Act.put, List.setIfInBounds_toArray, List.set_cons_zero, List.set_cons_succ]
  refine wpAnyH_take (i := 5) (oi := ⟨some 30, _, _, _, _, _⟩) (v := ?_) rfl (by kernel_rfl) (by kernel_rfl) (by kernel_rfl) (fun _ _ _ h => h) (Or.inl ⟨by rfl, ?_⟩) (by assumption) ?_
  rotate_left 1
  · (intro w hSw; (try dsimp only at hSw); go_simp; all_goals with_reducible rfl)
  try simp only [Act.put, List.setIfInBounds_toArray, List.set_cons_zero, List.set_cons_succ]
  refine wpAnyH_take (i := 7) (oi := ⟨some 32, _, _, _, _, _⟩) (v := ?_) rfl (by kernel_rfl) (by kernel_rfl) (by kernel_rfl) (fun _ _ _ h => h) (Or.inl ⟨by rfl, ?_⟩) (by assumption) ?_
  rotate_left 1
  · (intro w hSw; (try dsimp only at hSw); go_simp; all_goals with_reducible rfl)
  try simp only [Act.put, List.setIfInBounds_toArray, List.set_cons_zero, List.set_cons_succ]
  refine wpAnyH_take (i := 8) (oi := ⟨some 33, _, _, _, _, _⟩) (v := ?_) rfl (by kernel_rfl) (by kernel_rfl) (by kernel_rfl) (fun _ _ _ h => h) (Or.inl ⟨by rfl, ?_⟩) (by assumption) ?_
  rotate_left 1
  · (intro w hSw; (try dsimp only at hSw); go_simp; all_goals with_reducible rfl)
  try simp only [Act.put, List.setIfInBounds_toArray, List.set_cons_zero, List.set_cons_succ]
  refine wpAnyH_ready (rs := [3]) (by kernel_rfl) (by simp) ?_
  refine AllReadyH.cons (o := ⟨some 28, _, _, _, _, _⟩) rfl (fun K hK => ?_) AllReadyH.nil
  go_simp
  (go_at_call 57; (refine (re_put (z := w3.drew) (c.want) 8 8 rfl (R3.out.keep (Frm.refl _ _).drew) L3.out HC.out.want (by omega) (by have := HC.out.key; have := HC.out.val.1; simp [be_length, cb, strL_length]; omega)).mono ?_); rintro e w4 ⟨a4, n4, c4, L4, rfl, R4⟩; have S4 : Frm [] w0 w4 := R4.out.frm)
  go_wp2_with fail
  refine hK.out _ _ (by assumption) (fun hHeld => ?_)
  clear hK K
  try simp only [Act.put, List.setIfInBounds_toArray, List.set_cons_zero, List.set_cons_succ]
  refine wpAnyH_ready (rs := [6]) (by kernel_rfl) (by simp) ?_
  refine AllReadyH.cons (o := ⟨some 31, _, _, _, _, _⟩) rfl (fun K hK => ?_) AllReadyH.nil
  go_simp
  (go_at_call 57; (with_reducible refine (re_put (c.ses) 8 8 rfl R4.out L4.out HC.out.ses (by omega) (by have := HC.out.key; have := HC.out.val.1; simp [be_length, cb, strL_length]; omega)).mono ?_); rintro e w5 ⟨a5, n5, c5, L5, rfl, R5⟩; have S5 : Frm [] w0 w5 := R5.out.frm)
  go_wp2_with fail
  refine hK.out _ _ (by assumption) (fun hHeld => ?_)
  clear hK K
  try simp only [Act.put, List.setIfInBounds_toArray, List.set_cons_zero, List.set_cons_succ]
  refine wpAnyH_ready (rs := [9]) (by kernel_rfl) (by simp) ?_
  refine AllReadyH.cons (o := ⟨some 34, _, _, _, _, _⟩) rfl (fun K hK => ?_) AllReadyH.nil
  go_simp
  (go_at_call 57; (with_reducible refine (re_put (c.ticks) 8 8 rfl R5.out L5.out HC.out.ticks (by omega) (by have := HC.out.key; have := HC.out.val.1; simp [be_length, cb, strL_length]; omega)).mono ?_); rintro e w6 ⟨a6, n6, c6, L6, rfl, R6⟩; have S6 : Frm [] w0 w6 := R6.out.frm)
  go_wp2_with fail
  refine hK.out _ _ (by assumption) (fun hHeld => ?_)
  clear hK K
  try simp only [Act.put, List.setIfInBounds_toArray, List.set_cons_zero, List.set_cons_succ]
  refine wpAnyH_take (i := 10) (oi := ⟨some 4, _, _, _, _, _⟩) (v := ?_) rfl (by kernel_rfl) (by kernel_rfl) (by kernel_rfl) (fun _ _ _ h => h) (Or.inl ⟨by rfl, ?_⟩) (by assumption) ?_
  rotate_left 1
  · (intro w hSw; (try dsimp only at hSw); go_simp; all_goals with_reducible rfl)
  try simp only [Act.put, List.setIfInBounds_toArray, List.set_cons_zero, List.set_cons_succ]
  refine wpAnyH_done (by kernel_rfl) ?_ _
  clear E3 E4 E5
  have HE : Hid (Q (.returned (.slice a6 n6 c6)) w6) := Lib.hid (by
    rw [HQ.out]
    have hr : recB S c = [] ++ be 1 c.kind ++ cb (strL c.key) ++ cb c.val ++ be 8 c.want ++ be 8 c.ses ++ be 8 c.ticks := by unfold recB encC; rw [if_neg HK.out]; simp [List.append_assoc]
    rw [hr]
    exact ⟨a6, n6, c6, L6, rfl, Lib.hid (R6.out.less HF0.out)⟩)
  clear R1 R2 R3 R4 R5 R6 L1 L2 L3 L4 L5 L6
  go_wp2
  exact HE.out
end Go.Proofs.YtomgiockelhfiaaGreat
