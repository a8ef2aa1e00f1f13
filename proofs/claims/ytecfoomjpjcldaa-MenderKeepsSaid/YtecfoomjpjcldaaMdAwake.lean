/- The fixed fact that stage 12's statements call first. -/
import Derived.Test.YtecfoomjpjcldaaMdCalls
import Derived.Lib.SlBytesConst
namespace Go.Proofs.Ytecfoomjpjcldaa
open Go.RowKit
set_option maxRecDepth 100000
theorem u8_atM (w : World) (x : Nat) (hx : x < 256) (t : TypeId) (m : Nat × Nat) : Bytes (w.alloc (.cells #[.int .u8 x] t m)) (some ⟨w.heap.size, 0, none⟩) [x] := by
  refine ⟨by simp [hx], by simp, .inr ⟨_, _, rfl, fun i hi => ?_⟩⟩
  rw [cell_of_row _ w.heap.size _ #[.int .u8 (x : Int)] t m (heap_alloc_new w _)]
  simp at hi
  subst hi
  simp
theorem str_aM : strOf [97] = ⟨#[97]⟩ := by decide
theorem vals4M (w : World) (u v x y : Value) (t : TypeId) (m : Nat × Nat) : ValsAt (w.alloc (.cells #[u, v, x, y] t m)) (some ⟨w.heap.size, 0, none⟩) [u, v, x, y] := by
  refine .inr ⟨_, _, rfl, fun i z hx => ?_⟩
  rw [cell_of_row _ w.heap.size _ #[u, v, x, y] t m (heap_alloc_new w _)]
  match i, hx with
  | 0, hx => simpa using hx
  | 1, hx => simpa using hx
  | 2, hx => simpa using hx
  | 3, hx => simpa using hx
  | i + 4, hx => simp at hx
def awT : Tn := .nd 0 [97] (.nd 2 [99] .nil .nil) .nil
def aw12 : Nat → Bool := hrd (fun _ => false) 0
theorem runAw : RunOf (atT awT) 1 := by
  refine ⟨fun i hi => ?_, by decide⟩
  obtain rfl : i = 0 := by omega
  decide
set_option maxHeartbeats 8000000 in
theorem awake12_any (w : World) : Calls Try.prog 23 #[] w fun e w' => e = .returned (.bool true) ∧ Frm [] w w' := by
  have kc := fun (w : World) (C : Array Value) (n c : Nat) => Lib.run_convert_bytes_const (P := Try.prog) w 38 5 C n c Try.underlying38 Try.underlying5
  have kc2 := fun (w : World) (X C : Array Value) (n c : Nat) => (by
    have h := Lib.run_convert_bytes_const (P := Try.prog) (w.alloc (.cells X 5 (1, 2))) 38 5 C n c Try.underlying38 Try.underlying5
    rw [World.size_alloc] at h; exact h : (convert 38 38 (.slice (some ⟨w.heap.size + 1, 0, none⟩) n c)).run Try.prog ((w.alloc (.cells X 5 (1, 2))).alloc (.cells C 5)) = .ok (.slice (some ⟨w.heap.size + 1, 0, none⟩) n c) ((w.alloc (.cells X 5 (1, 2))).alloc (.cells C 5 (C.size, C.size + 1))))
  have HNW := mdnew_ok 3 3 2 w rfl [] (by simp)
  unfold quV at HNW
  rw [show ((3 : Nat) : Int) = 3 from rfl, show ((2 : Nat) : Int) = 2 from rfl] at HNW
  have HNW := Lib.hid HNW
  go_enter Try.func23, Try.ntmps23
  go_wp2_with fail
  (with_reducible refine HNW.out.mono ?_)
  rintro e w1 ⟨p, rfl, hf1, hp, hm1⟩
  obtain ⟨wA, hwA⟩ : ∃ wA, wA = w1.alloc (.cells #[.int .u8 97] 5 (1, 2)) := ⟨_, rfl⟩
  obtain ⟨wB, hwB⟩ : ∃ wB, wB = wA.alloc (.cells #[.int .u8 99] 5 (1, 2)) := ⟨_, rfl⟩
  obtain ⟨wC, hwC⟩ : ∃ wC, wC = wB.alloc (.cells #[.int .u64 0, .slice (some ⟨w1.heap.size, 0, none⟩) 1 1, .int .u64 2, .slice (some ⟨wA.heap.size, 0, none⟩) 1 1] 55) := ⟨_, rfl⟩
  have hfA : Frm [] w1 wA := by rw [hwA]; exact (Frm.refl _ _).alloc _
  have hfB : Frm [] wA wB := by rw [hwB]; exact (Frm.refl _ _).alloc _
  have hfC : Frm [] wB wC := by rw [hwC]; exact (Frm.refl _ _).alloc _
  have hX : IL wC [] (some ⟨wB.heap.size, 0, none⟩) [⟨(0, [97]), some ⟨w1.heap.size, 0, none⟩, 1⟩, ⟨(2, [99]), some ⟨wA.heap.size, 0, none⟩, 1⟩] := by
    refine ⟨by rw [hwC]; exact vals4M _ _ _ _ _ _ _, fun y hy => ?_, by simp⟩
    have h1 : Bytes wC (some ⟨w1.heap.size, 0, none⟩) [97] := (hfB.trans hfC (U := []) (by simp) (by simp)).bytes' (by rw [hwA]; exact u8_atM w1 97 (by omega) _ _) (by simp)
    have h2 : Bytes wC (some ⟨wA.heap.size, 0, none⟩) [99] := hfC.bytes' (by rw [hwB]; exact u8_atM wA 99 (by omega) _ _) (by simp)
    simp only [List.mem_cons, List.not_mem_nil, or_false] at hy
    rcases hy with rfl | rfl
    · exact ⟨h1, by simp, by simp, by simp⟩
    · exact ⟨h2, by simp, by simp, by simp⟩
  have hfC1 : Frm [] w1 wC := (hfA.trans hfB (U := []) (by simp) (by simp)).trans hfC (U := []) (by simp) (by simp)
  have hmC := hm1.here hfC1
  have HH1 := hear_any 0 0 (some ⟨wB.heap.size, 0, none⟩) 2 2 _ hmC (by decide) hX rfl (by intro x hx; simp at hx; rcases hx with rfl | rfl <;> simp) (by decide) (by simp)
  rw [show ((0 : Nat) : Int) = 0 from rfl] at HH1
  have HFC := Lib.hid (hf1.trans hfC1 (U := []) (by simp) (by simp))
  have HP := Lib.hid hp
  have HH1 := Lib.hid HH1
  have HWC : Hid (((w1.alloc (.cells #[.int .u8 97] 5 (1, 2))).alloc (.cells #[.int .u8 99] 5 (1, 2))).alloc (.cells #[.int .u64 0, .slice (some ⟨w1.heap.size, 0, none⟩) 1 1, .int .u64 2, .slice (some ⟨w1.heap.size + 1, 0, none⟩) 1 1] 55) = wC) := Lib.hid (by rw [hwC, hwB, hwA]; simp)
  have HBS : Hid (w1.heap.size + 1 + 1 = wB.heap.size) := Lib.hid (by rw [hwB, hwA]; simp)
  clear hwA hwB hwC hfA hfB hfC hX hfC1 hmC hf1 hp hm1 HNW
  go_wp2_with fail
  rw [HWC.out, HBS.out]
  (with_reducible refine HH1.out.mono ?_)
  rintro e w2 (⟨hb, _⟩ | ⟨pn, hpn, _, _, ⟨hno, _⟩ | ⟨t', hyes, rfl, hf2, hm2⟩⟩)
  · exact absurd hb (by decide)
  · have h1 : joinT .nil (its [⟨(0, [97]), some ⟨w1.heap.size, 0, none⟩, 1⟩, ⟨(2, [99]), some ⟨wA.heap.size, 0, none⟩, 1⟩]) = some awT := rfl
    rw [h1] at hno; cases hno
  obtain rfl : pn = 0 := by omega
  have ht : t' = awT := by
    have h1 : joinT .nil (its [⟨(0, [97]), some ⟨w1.heap.size, 0, none⟩, 1⟩, ⟨(2, [99]), some ⟨wA.heap.size, 0, none⟩, 1⟩]) = some awT := rfl
    rw [h1] at hyes; injection hyes with h; exact h.symm
  subst ht
  have hm2' : Md w2 p [] 3 3 2 aw12 0 awT := hm2
  have HF2 : Hid (Frm [] w w2) := Lib.hid (HFC.out.trans hf2 (by simp) (fun x hx => .inr (by simp at hx; subst hx; exact HP.out)))
  have HR1 := Lib.hid (ready_any hm2')
  rw [show covN 3 3 2 (hrdL aw12) = false by decide] at HR1
  have HM2 := Lib.hid hm2'
  clear hyes hf2 hm2 hm2' HH1 HWC HBS hpn
  go_wp2_with fail
  (with_reducible refine HR1.out.mono ?_)
  rintro e w3 ⟨rfl, hf3⟩
  have hm3 := HM2.out.here hf3
  have HF3 : Hid (Frm [] w w3) := Lib.hid (HF2.out.trans hf3 (by simp) (by simp))
  have HH2 := hear_any 1 0 none 0 0 [] hm3 (by decide) (IL.nil _ [] _) rfl (by simp) (by decide) (by simp)
  rw [show ((0 : Nat) : Int) = 0 from rfl] at HH2
  have HH2 := Lib.hid HH2
  clear hf3 hm3 HR1 HM2
  go_wp2_with fail
  (with_reducible refine HH2.out.mono ?_)
  rintro e w4 (⟨hb, _⟩ | ⟨pn, hpn, _, _, ⟨hno, _⟩ | ⟨t', hyes, rfl, hf4, hm4⟩⟩)
  · exact absurd hb (by decide)
  · exact absurd hno (by decide)
  obtain rfl : pn = 1 := by omega
  have ht : t' = awT := by
    have h1 : joinT awT (its []) = some awT := rfl
    rw [h1] at hyes; injection hyes with h; exact h.symm
  subst ht
  have hm4' : Md w4 p [] 3 3 2 (hrd aw12 1) 0 awT := hm4
  have HF4 : Hid (Frm [] w w4) := Lib.hid (HF3.out.trans hf4 (by simp) (fun x hx => .inr (by simp at hx; subst hx; exact HP.out)))
  have HRS := Lib.hid (result_any hm4' (by decide) (by simp))
  have HM4 := Lib.hid hm4'
  clear hyes hf4 hm4 hm4' HH2 hpn
  go_wp2_with fail
  (with_reducible refine HRS.out.mono ?_)
  rintro e w5 ⟨hf5, ⟨hc, _⟩ | ⟨_, k, hrun, ⟨hlt, _⟩ | ⟨_, a, c, X, hk, hits, rfl, hown⟩⟩⟩
  · exact absurd hc (by decide)
  · exact absurd hlt (by omega)
  obtain rfl : k = 1 := hrun.one runAw
  have hm5 := HM4.out.here hf5
  have HR2 := Lib.hid (fun z (hz : Frm [] w5 z) => ready_any (hm5.here hz))
  rw [show covN 3 3 2 (hrdL (hrd aw12 1)) = true by decide] at HR2
  have HF5 : Hid (Frm [] w w5) := Lib.hid (HF4.out.trans hf5 (by simp) (by simp))
  have hil := hown.il
  have ht : (X.getD 0 default).t = (0, [97]) := by
    have h1 : (its X)[0]? = some (0, [97]) := by rw [hits]; rfl
    simp only [its, List.getElem?_map, Option.map_eq_some_iff] at h1
    obtain ⟨x, hx, he⟩ := h1
    rw [List.getD_eq_getElem?_getD, hx]; exact he
  have hlt0 : 0 < X.length := by omega
  have C1 : Hid (∀ z, Frm [] w5 z → ∃ b off, a = some ⟨b, off, none⟩ ∧ z.cell? ⟨b, off + 1, none⟩ = some (.slice (X.getD 0 default).a 1 (X.getD 0 default).c) ∧ (convert 38 9 (.slice (X.getD 0 default).a 1 (X.getD 0 default).c)).run Try.prog z = .ok (.string ⟨#[97]⟩) z) := Lib.hid fun z hz => by
    obtain ⟨b, off, rfl, p0, p1, okx⟩ := (hil.keep hz (F' := [p]) (by simp) (fun x hx => .inl hx)).at (i := 0) hlt0
    rw [ht] at p1
    have hby := okx.bytes
    rw [ht] at hby
    refine ⟨b, off, rfl, by simpa using p1, ?_⟩
    rw [← str_aM]
    exact run_to_string (P := Try.prog) (e := 5) Try.underlying38 Try.underlying5 Try.underlying9 hby rfl
  generalize (X.getD 0 default).a = xa at C1
  generalize (X.getD 0 default).c = xc at C1
  clear hrun hk hits hown hf5 hm5 hil ht hlt0 HRS HM4
  go_wp2_with fail
  (with_reducible refine (HR2.out _ (by repeat (first | apply Frm.drew | apply Frm.drewN | exact Frm.refl _ _))).mono ?_)
  rintro e w6 ⟨rfl, hf6⟩
  have HF6 : Hid (Frm [] w w6) := Lib.hid (HF5.out.trans hf6 (by simp) (by simp))
  obtain ⟨b, off, rfl, c1, c2⟩ := C1.out _ hf6
  clear hf6 C1 HR2
  go_wp2
  go_ret
  exact ⟨rfl, HF6.out⟩
end Go.Proofs.Ytecfoomjpjcldaa
