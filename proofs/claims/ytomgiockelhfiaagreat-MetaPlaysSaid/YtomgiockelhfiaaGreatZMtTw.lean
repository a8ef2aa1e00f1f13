/- Both keepers, the program's and the document's, with the same state; contract of the law's did. -/
import Derived.Test.YtomgiockelhfiaaGreatZRkDo
import Derived.Test.YtomgiockelhfiaaGreatMD
import Derived.Test.YtomgiockelhfiaaGreatZMtPair
namespace Go.Proofs.YtomgiockelhfiaaGreat
open Go.RowKit
set_option maxRecDepth 100000
/-- The program's keeper at k on the disk dp, the document's at q on the disk m: one state, one disk's bytes; nothing of both lies in Z. -/
def Tm (w0 w : World) (Z : List Nat) (k dp q m room : Nat) (S : MS) (l : List Nat) : Prop :=
  ∃ jq Fd Gd, Kp w w0.heap.size (q :: (Gd ++ Z)) k jq dp Fd S l room ∧ Rk w w0.heap.size q m (k :: (Fd ++ Z)) Gd S l room ∧ Frm [] w0 w ∧ ∀ x ∈ Z, x < w.heap.size
section
variable {w0 w : World} {Z Z' : List Nat} {k dp q m room : Nat} {S : MS} {l : List Nat}
theorem Tm.here {w' : World} (h : Tm w0 w Z k dp q m room S l) (hf : Frm [] w w') (hZ : ∀ x ∈ Z', x ∈ Z ∨ w.heap.size ≤ x) (hZl : ∀ x ∈ Z', x < w'.heap.size) : Tm w0 w' Z' k dp q m room S l := by
  obtain ⟨jq, Fd, Gd, h1, h2, h3, h4⟩ := h
  refine ⟨jq, Fd, Gd, h1.keep hf (by simp) (fun x hx => ?_), h2.keep hf (by simp) (fun x hx => ?_), h3.trans hf (by simp) (by simp), hZl⟩
  · simp only [List.mem_cons, List.mem_append] at hx ⊢
    rcases hx with h | h | h
    · exact .inl (.inl h)
    · exact .inl (.inr (.inl h))
    · exact (hZ x h).imp (fun h => .inr (.inr h)) id
  · simp only [List.mem_cons, List.mem_append] at hx ⊢
    rcases hx with h | h | h
    · exact .inl (.inl h)
    · exact .inl (.inr (.inl h))
    · exact (hZ x h).imp (fun h => .inr (.inr h)) id
theorem Tm.same {w' : World} (h : Tm w0 w Z k dp q m room S l) (hf : Frm [] w w') : Tm w0 w' Z k dp q m room S l := by
  have hz := h
  obtain ⟨_, _, _, _, _, _, h4⟩ := hz
  exact h.here hf (fun x hx => .inl hx) (fun x hx => Nat.lt_of_lt_of_le (h4 x hx) hf.size)
theorem Tm.frm (h : Tm w0 w Z k dp q m room S l) : Frm [] w0 w := by obtain ⟨_, _, _, _, _, h3, _⟩ := h; exact h3
theorem kG_few {c : MC} (hM : MOk S) : (kG S l room c).length ≤ 16 := by
  unfold kG doG
  split
  · split
    · unfold goneS; rw [List.length_map]; exact Nat.le_trans (List.length_filter_le _ _) hM.right.1
    · simp
  · simp
/-- What did leaves. -/
def TmEnd (w0 w : World) (Z : List Nat) (k dp q m room : Nat) (S : MS) (l : List Nat) (e : Ending) (w' : World) : Prop :=
  e = .returned (.bool true) ∧ Tm w0 w' Z k dp q m room S l ∧ ∃ T, Frm T w w' ∧ (∀ x ∈ T, w0.heap.size ≤ x) ∧ ∀ x ∈ Z, x ∉ T
set_option maxHeartbeats 8000000 in
theorem mdid_any (c : MC) (a : Option Addr) (cap : Nat) (h : Tm w0 w Z k dp q m room S l) (hM : MOk S) (hv : ∀ d ∈ S.nodes, d.ver ≠ 0) (hc : MCOk c) (hb : Bytes w a c.val) (hba : c.val ≠ [] → ∀ x, a = some x → x.block < w0.heap.size) (hnil : a = none → cap = 0) :
    Calls Tryz.prog 12 #[.pointer (some ⟨k, 0, none⟩), .pointer (some ⟨q, 0, none⟩), cmdV c a cap] w (TmEnd w0 w Z k dp q m room (kS S l room c) (kL S l room c)) := by
  obtain ⟨wb, hwb⟩ : ∃ wb, wb = w.alloc (.cells (cmdC c a cap) 51) := ⟨_, rfl⟩
  obtain ⟨g, hg⟩ : ∃ g, g = w.heap.size := ⟨_, rfl⟩
  obtain ⟨hW, hf0⟩ := cmd_at hwb hg
  have hT := h.here (Z' := g :: Z) hf0 (fun x hx => by
    rcases List.mem_cons.1 hx with rfl | hx
    · exact .inr (by omega)
    · exact .inl hx) (fun x hx => by
    rcases List.mem_cons.1 hx with rfl | hx
    · exact hW.lt
    · obtain ⟨_, _, _, _, _, _, h4⟩ := h; exact Nat.lt_of_lt_of_le (h4 x hx) hf0.size)
  obtain ⟨jq, Fd, Gd, k1, r1, f1, z1⟩ := hT
  have q1 := kp_pos k1
  have hlt : ∀ x ∈ q :: (Gd ++ g :: Z), x < wb.heap.size := fun x hx => by
    simp only [List.mem_cons, List.mem_append] at hx
    rcases hx with h | h | h
    · exact (r1.lt x (by simp [h])).2
    · exact (r1.lt x (by simp [h])).2
    · exact z1 x (by simpa using h)
  have HDO := Lib.hid (kdo_any c a cap k1 hM hv hc hlt (hf0.bytes' hb (by simp)) hnil)
  have K1 := Lib.hid k1
  have R1 := Lib.hid r1
  have F1 := Lib.hid f1
  have Z1 := Lib.hid z1
  have HF0 := Lib.hid hf0
  have HM := Lib.hid hM
  have HC := Lib.hid hc
  have HB := Lib.hid (hf0.bytes' hb (by simp))
  have HBA := Lib.hid hba
  have HNIL := Lib.hid hnil
  have HWB := Lib.hid hwb
  have HG := Lib.hid hg
  have HW := Lib.hid hW
  have e0 := hW.cell 0
  have e1 := hW.cell 1
  have e2 := hW.cell 2
  have e3 := hW.cell 3
  have e4 := hW.cell 4
  have e5 := hW.cell 5
  simp [cmdC] at e0 e1 e2 e3 e4 e5
  have HQ1 := Lib.hid q1
  have eC : cmdV c a cap = .agg #[.int .u8 (c.kind : Nat), .string c.key, .slice a c.val.length cap, .int .u64 (c.want : Nat), .int .u64 (c.ses : Nat), .int .u64 (c.ticks : Nat)] := rfl
  have HEC := Lib.hid eC
  rw [eC] at HDO ⊢
  rw [show cmdC c a cap = #[.int .u8 (c.kind : Nat), .string c.key, .slice a c.val.length cap, .int .u64 (c.want : Nat), .int .u64 (c.ses : Nat), .int .u64 (c.ticks : Nat)] from rfl] at HWB
  rw [HWB.out, HG.out] at e0 e1 e2 e3 e4 e5
  obtain ⟨Q, hQ⟩ : ∃ Q, Q = TmEnd w0 w Z k dp q m room (kS S l room c) (kL S l room c) := ⟨_, rfl⟩
  have HQ := Lib.hid hQ
  rw [← hQ]
  clear h hM hv hc hb hba hnil hwb hg hW hf0 k1 r1 f1 z1 q1 hlt eC hQ
  obtain ⟨en, hen⟩ : ∃ en, en = kE S l room c := ⟨_, rfl⟩
  obtain ⟨nn, hnn⟩ : ∃ nn, nn = kN S l room c := ⟨_, rfl⟩
  obtain ⟨gl, hgl⟩ : ∃ gl, gl = (kG S l room c).length := ⟨_, rfl⟩
  have hg16 : gl ≤ 16 := by rw [hgl]; exact kG_few HM.out
  unfold KdoEnd at HDO
  rw [← hen, ← hnn, ← hgl] at HDO
  have HEN := Lib.hid hen
  have HNN := Lib.hid hnn
  have HGL := Lib.hid hgl
  clear hen hnn hgl
  go_enter Tryz.func12, Tryz.ntmps12
  go_wp2_with fail
  rw [← HWB.out, ← HG.out]
  (with_reducible refine HDO.out.mono ?_)
  rintro e w1 ⟨ga, gc, Fd', rfl, hgv, hga, hk1, hf1, hx1⟩
  have hkz : ∀ x ∈ k :: Fd, x ≠ g := fun x hx e => (HQ1.out x hx).1 (by simp [e])
  have hW1 := hf1.whole HW.out (fun hm => hkz g hm rfl)
  have hr1 := R1.out.keep (G' := k :: (Fd' ++ g :: Z)) hf1 (fun x hx => .inl (by simp only [List.mem_cons, List.mem_append] at hx ⊢; exact hx.imp id .inl)) (fun x hx => by
    simp only [List.mem_cons, List.mem_append] at hx ⊢
    rcases hx with h | h | h
    · exact .inl (.inl h)
    · exact (hx1 x h).imp (fun h => .inr (.inl h)) id
    · exact .inl (.inr (.inr h)))
  have hlt1 : ∀ x ∈ k :: (Fd' ++ g :: Z), x < w1.heap.size := fun x hx => by
    simp only [List.mem_cons, List.mem_append] at hx
    rcases hx with h | h | h
    · exact hk1.klt x (by simp [h])
    · exact hk1.klt x (by simp [h])
    · exact Nat.lt_of_lt_of_le (Z1.out x (by simpa using h)) hf1.size
  have HRO := Lib.hid (rkdo_any c a cap hr1 HM.out HC.out hlt1 (hf1.bytes' HB.out (fun hne x hx hm => by have h1 := HBA.out hne x hx; have h2 := (HQ1.out _ hm).2.1; omega)) HNIL.out)
  unfold RkEnd at HRO
  rw [HEC.out, ← HEN.out, ← HNN.out, ← HGL.out] at HRO
  have e0 := hW1.cell 0
  have e1 := hW1.cell 1
  have e2 := hW1.cell 2
  have e3 := hW1.cell 3
  have e4 := hW1.cell 4
  have e5 := hW1.cell 5
  simp [cmdC] at e0 e1 e2 e3 e4 e5
  have HK1 := Lib.hid hk1
  have HR1 := Lib.hid hr1
  have HF1 := Lib.hid hf1
  have HGV := Lib.hid hgv
  have HGA := Lib.hid hga
  clear hgv hga hk1 hf1 hx1 hkz hW1 hr1 hlt1 HDO
  go_wp2_with fail
  (with_reducible refine HRO.out.mono ?_)
  rintro e w2 ⟨ra, rc, Gd', rfl, hrv, hra, hr2, hf2, hx2⟩
  clear e0 e1 e2 e3 e4 e5
  have hk2 := HK1.out.keep (G' := q :: (Gd' ++ Z)) hf2 (fun x hx => .inl (by simp only [List.mem_cons, List.mem_append] at hx ⊢; exact hx.imp id .inl)) (fun x hx => by
    simp only [List.mem_cons, List.mem_append] at hx ⊢
    rcases hx with h | h | h
    · exact .inl (.inl h)
    · exact (hx2 x h).imp (fun h => .inr (.inl h)) id
    · exact .inl (.inr (.inr (.inr h))))
  have hr2' := hr2.keep (G' := k :: (Fd' ++ Z)) (Frm.refl [] _) (by simp) (fun x hx => by
    simp only [List.mem_cons, List.mem_append] at hx ⊢
    rcases hx with h | h | h
    · exact .inl (.inl h)
    · exact .inl (.inr (.inl h))
    · exact .inl (.inr (.inr (.inr h))))
  have hT : Frm ((k :: Fd) ++ (q :: Gd)) wb w2 := HF1.out.trans hf2 (fun x hx => List.mem_append_left _ hx) (fun x hx => .inl (List.mem_append_right _ hx))
  have hTl : ∀ x ∈ (k :: Fd) ++ (q :: Gd), w0.heap.size ≤ x ∧ x < wb.heap.size ∧ x ∉ Z := fun x hx => by
    rcases List.mem_append.1 hx with h | h
    · have h1 := HQ1.out x h
      exact ⟨h1.2.1, h1.2.2, fun hz => h1.1 (by simp [hz])⟩
    · have h1 := R1.out.lt x h
      exact ⟨h1.1, h1.2, fun hz => R1.out.out x h (by simp [hz])⟩
  have hTM : Tm w0 w2 Z k dp q m room (kS S l room c) (kL S l room c) := ⟨jq, Fd', Gd', hk2, hr2', F1.out.trans hT (by simp) (fun x hx => .inr (hTl x hx).1), fun x hx => Nat.lt_of_lt_of_le (Z1.out x (by simp [hx])) hT.size⟩
  have GO : Hid (∀ z, Frm [] w2 z → Q (.returned (.bool true)) z) := Lib.hid fun z hz => by
    rw [HQ.out]
    exact ⟨rfl, hTM.same hz, _, (HF0.out.trans hT (U := (k :: Fd) ++ (q :: Gd)) (by simp) (fun x hx => .inl hx)).trans hz (fun x hx => hx) (by simp), fun x hx => (hTl x hx).1, fun x hx hm => (hTl x hm).2.2 hx⟩
  have HGV2 : Hid (ValsAt w2 ga (uvs (kG S l room c))) := Lib.hid (HGV.out.keep hf2 (fun _ y hy hm => by have h1 := HGA.out y hy; have h2 := (R1.out.lt _ hm).2; omega))
  have HRV := Lib.hid hrv
  clear hrv hra hr2 hf2 hx2 hk2 hr2' hT hTl hTM HGV HRO
  have b1 : ((nn : Int) != (nn : Int)) = false := by simp
  have b2 : ((en : Int) != (en : Int)) = false := by simp
  have b3 : ((gl : Int) != (gl : Int)) = false := by simp
  go_wp2
  clear b1 b2 b3
  go_loopw [45] (fun i wr => ∃ j : Nat, j ≤ gl ∧ i = .int .i64 j ∧ Hid (Frm [] w2 wr)) (fun i _ => gl - (intOf i).toNat)
  case atStart => exact ⟨0, Nat.zero_le _, rfl, Lib.hid (Frm.refl _ _)⟩
  case round =>
    obtain ⟨j, hj, rfl, HF⟩ := hrel
    by_cases hlt : j < gl
    · obtain ⟨b, off, rfl, p0⟩ := vals_at (HGV2.out.keep HF.out (by simp)) (i := j) (by have := HGL.out; omega)
      obtain ⟨b', off', rfl, q0⟩ := vals_at (HRV.out.keep HF.out (by simp)) (i := j) (by have := HGL.out; omega)
      generalize (kG S l room c).getD j 0 = x at p0 q0
      have hlt' : (j : Int) < (gl : Int) := by omega
      have e : ((x : Int) != (x : Int)) = false := by simp
      go_wp2
      go_quiet (fail)
      go_wp2
      go_roundw
      case rel => exact ⟨j + 1, by omega, by go_num, Lib.hid (HF.out.drewN _)⟩
      case measure => simp [intOf]; omega
    · obtain rfl : j = gl := by omega
      have HE := Lib.hid (GO.out _ HF.out)
      go_wp2
      exact HE.out
end
end Go.Proofs.YtomgiockelhfiaaGreat
