/- OwnerOne: the walk. -/
import Derived.Test.YtcbpppdmkhpkkaaGreatMG
import Derived.Test.YtcbpppdmkhpkkaaGreatZInHs
import Derived.Deep.DeepCutAuto
import Derived.Deep.CutBlock
import Derived.Deep.CutRange
namespace Go.Proofs.YtcbpppdmkhpkkaaGreat
open Go.RowKit
set_option maxRecDepth 100000

/-- The sessions that are opened. -/
def opC : MC := { kind := 3, ticks := 6 }
theorem opC_ok : MCOk opC := ⟨by decide, by decide, ⟨by decide, by simp [opC]⟩, by decide, by decide, by decide⟩
def opS : Nat → MS
  | 0 => {}
  | j + 1 => doS (opS j) opC
theorem op_0 : doE (opS 0) opC = 0 ∧ doN (opS 0) opC = 1 := ⟨by kernel_rfl, by kernel_rfl⟩
theorem op_1 : doE (opS 1) opC = 0 ∧ doN (opS 1) opC = 2 := ⟨by kernel_rfl, by kernel_rfl⟩
theorem op_2 : doE (opS 2) opC = 0 ∧ doN (opS 2) opC = 3 := ⟨by kernel_rfl, by kernel_rfl⟩
def idsA (j : Nat) : Array Value := #[.int .u64 (if 0 < j then 1 else 0 : Nat), .int .u64 (if 1 < j then 2 else 0 : Nat), .int .u64 (if 2 < j then 3 else 0 : Nat)]
theorem op_one : OwOne (opS 3) 0 0 none := by
  have hn : (opS 3).nodes = [] := by kernel_rfl
  refine ⟨((MOk.first.does opC_ok).does opC_ok).does opC_ok, fun d hd => ?_, ?_, ?_, (fun i h => by cases h), ?_, by decide, fun d hd => ?_, by kernel_rfl⟩
  · rw [hn] at hd; cases hd
  · rw [hn]; exact Nat.le_refl _
  · rw [hn]; exact fun _ => rfl
  · unfold epB; rw [hn]; rfl
  · rw [hn] at hd; cases hd
def hI : Option Nat → Int
  | none => -1
  | some x => (x : Nat)
/-- Behind j rounds. -/
def OneRel (w0 : World) (g k : Nat) (j ep : Nat) (h : Option Nat) (wr : World) : Prop :=
  ∃ S, Ko w0 wr [g] k S 4194304 (3 + 2 * j) (12312 + 8208 * j) ∧ Whole wr g 66 (idsA 3) ∧ OwOne S j ep h
theorem OneRel.frm {w0 : World} {g k j ep : Nat} {h : Option Nat} {wr : World} (r : OneRel w0 g k j ep h wr) : Frm [] w0 wr := by
  obtain ⟨S, h1, _⟩ := r; exact h1.frm
theorem ids_at {w : World} {g i : Nat} (h : Whole w g 66 (idsA 3)) (hi : i < 3) : w.cell? ⟨g, i, none⟩ = some (.int .u64 ((i + 1 : Nat) : Int)) := by
  rcases (by omega : i = 0 ∨ i = 1 ∨ i = 2) with rfl | rfl | rfl
  · exact h.cell 0
  · exact h.cell 1
  · exact h.cell 2
theorem ko_store {w0 w : World} {g k : Nat} {S : MS} {room m n : Nat} (h : Ko w0 w [g] k S room m n) (i : Nat) (v : Value) (hg : w0.heap.size ≤ g) : Ko w0 (w.setCell ⟨g, i, none⟩ v) [g] k S room m n := by
  obtain ⟨jq, dp, Fd, l, h1, h2, h3, h4, h5, h6⟩ := h
  have hf : Frm [g] w (w.setCell ⟨g, i, none⟩ v) := (Frm.refl _ _).setCell (.inl (by simp)) _
  exact ⟨jq, dp, Fd, l, h1.keep hf (fun x hx => .inl hx) (fun x hx => .inl hx), h2.trans hf (by simp) (fun x hx => .inr (by simp at hx; omega)), h3, h4, h5, fun x hx => Nat.lt_of_lt_of_le (h6 x hx) hf.size⟩

set_option linter.unusedVariables false in
set_option maxHeartbeats 32000000 in
theorem ownerOne_walk (a : Option Addr) (m cap : Nat) (ss : List Nat) (w : World) (h : Hs w a ss) (hm : m = ss.length) (h63 : m ≤ 9223372036854775807) :
    Calls Tryz.prog 4 #[.slice a m cap] w fun e w' => e = .returned (.bool true) ∧ Below w.heap.size w w' := by
  have A0 := Lib.hid (awake17_any w)
  have H := Lib.hid h
  have HM := Lib.hid hm
  clear h hm
  go_enter Tryz.func4, Tryz.ntmps4
  go_wp2_with fail
  (with_reducible refine A0.out.mono ?_)
  rintro e w0 ⟨rfl, hf0⟩
  have F0 := Lib.hid hf0
  have N0 := ko_new w0 4194304 w0 (Frm.refl _ _) (by decide)
  rw [show ((4194304 : Nat) : Int) = 4194304 from rfl] at N0
  have N0 := Lib.hid N0
  clear hf0 A0
  go_wp2_with fail
  (with_reducible refine N0.out.mono ?_)
  rintro e w1 ⟨k, rfl, hk1⟩
  obtain ⟨w2, hw2⟩ : ∃ w2, w2 = w1.alloc (.cells #[.int .u64 0, .int .u64 0, .int .u64 0] 66) := ⟨_, rfl⟩
  obtain ⟨g, hg⟩ : ∃ g, g = w1.heap.size := ⟨_, rfl⟩
  have f12 : Frm [] w1 w2 := by rw [hw2]; exact (Frm.refl _ _).alloc _
  have G2 : Hid (Whole w2 g 66 (idsA 0)) := Lib.hid (by rw [hw2, hg]; exact Whole.made _ _ _)
  have K2 : Hid (Ko w0 w2 [g] k (opS 0) 4194304 0 0) := Lib.hid (hk1.here f12 (fun x hx => .inr (by simp at hx; omega)) (fun x hx => by simp at hx; subst hx; exact G2.out.lt))
  have GE : Hid (w0.heap.size ≤ g) := Lib.hid (by rw [hg]; exact hk1.frm.size)
  have HW2 := Lib.hid hw2
  have HG := Lib.hid hg
  clear hk1 f12 hw2 hg N0
  go_upto_region 5 with (fail)
  rw [← HW2.out, ← HG.out]
  clear HW2 HG
  go_wp2
  go_loopw [20] (fun i wr => ∃ j : Nat, j ≤ 3 ∧ i = .int .i64 (j : Nat) ∧ Hid (Ko w0 wr [g] k (opS j) 4194304 j (4104 * j)) ∧ Hid (Whole wr g 66 (idsA j))) (fun i _ => 3 - (intOf i).toNat)
  case atStart => exact ⟨0, by omega, rfl, K2, G2⟩
  case round =>
    clear K2 G2
    obtain ⟨j, hj, rfl, HK, HG⟩ := hrel
    rcases (by omega : j = 0 ∨ j = 1 ∨ j = 2 ∨ j = 3) with rfl | rfl | rfl | rfl
    · have OPE := op_0
      have D := ko_do opC none 0 HK.out (by decide) opC_ok (Bytes.nil _) (fun _ => rfl) (by decide) (by decide) (by decide)
      rw [show cmdV opC none 0 = .agg #[.int .u8 3, .string ⟨#[]⟩, .slice none 0 0, .int .u64 0, .int .u64 0, .int .u64 6] from rfl, OPE.1, OPE.2] at D
      have D := Lib.hid D
      go_wp2_with fail
      (with_reducible refine D.out.mono ?_)
      rintro e w3 ⟨n3, ga, gn, gc, rfl, hn3, hk3, hz3⟩
      obtain rfl := hn3 (by first | rfl | trivial)
      have b3 := hz3 g (by simp) _ _ HG.out
      have k0 := b3.free 0
      have x0 : w3.cell? ⟨g, 0, none⟩ = some (.int .u64 0) := b3.cell 0
      have HK3 := Lib.hid hk3
      have B3 := Lib.hid b3
      clear D hz3 hk3 hn3 HK HG b3
      go_wp2
      go_roundw
      case rel =>
        refine ⟨0 + 1, by omega, by go_num, Lib.hid ?_, Lib.hid ?_⟩
        · exact ((ko_store HK3.out 0 (.int .u64 ((0 + 1 : Nat) : Int)) GE.out).more (by omega) (by omega))
        · have := B3.out.put 0 (.int .u64 ((0 + 1 : Nat) : Int))
          exact this
      case measure => simp [intOf]
    · have OPE := op_1
      have D := ko_do opC none 0 HK.out (by decide) opC_ok (Bytes.nil _) (fun _ => rfl) (by decide) (by decide) (by decide)
      rw [show cmdV opC none 0 = .agg #[.int .u8 3, .string ⟨#[]⟩, .slice none 0 0, .int .u64 0, .int .u64 0, .int .u64 6] from rfl, OPE.1, OPE.2] at D
      have D := Lib.hid D
      go_wp2_with fail
      (with_reducible refine D.out.mono ?_)
      rintro e w3 ⟨n3, ga, gn, gc, rfl, hn3, hk3, hz3⟩
      obtain rfl := hn3 (by first | rfl | trivial)
      have b3 := hz3 g (by simp) _ _ HG.out
      have k0 := b3.free 1
      have x0 : w3.cell? ⟨g, 1, none⟩ = some (.int .u64 0) := b3.cell 1
      have HK3 := Lib.hid hk3
      have B3 := Lib.hid b3
      clear D hz3 hk3 hn3 HK HG b3
      go_wp2
      go_roundw
      case rel =>
        refine ⟨1 + 1, by omega, by go_num, Lib.hid ?_, Lib.hid ?_⟩
        · exact ((ko_store HK3.out 1 (.int .u64 ((1 + 1 : Nat) : Int)) GE.out).more (by omega) (by omega))
        · have := B3.out.put 1 (.int .u64 ((1 + 1 : Nat) : Int))
          exact this
      case measure => simp [intOf]
    · have OPE := op_2
      have D := ko_do opC none 0 HK.out (by decide) opC_ok (Bytes.nil _) (fun _ => rfl) (by decide) (by decide) (by decide)
      rw [show cmdV opC none 0 = .agg #[.int .u8 3, .string ⟨#[]⟩, .slice none 0 0, .int .u64 0, .int .u64 0, .int .u64 6] from rfl, OPE.1, OPE.2] at D
      have D := Lib.hid D
      go_wp2_with fail
      (with_reducible refine D.out.mono ?_)
      rintro e w3 ⟨n3, ga, gn, gc, rfl, hn3, hk3, hz3⟩
      obtain rfl := hn3 (by first | rfl | trivial)
      have b3 := hz3 g (by simp) _ _ HG.out
      have k0 := b3.free 2
      have x0 : w3.cell? ⟨g, 2, none⟩ = some (.int .u64 0) := b3.cell 2
      have HK3 := Lib.hid hk3
      have B3 := Lib.hid b3
      clear D hz3 hk3 hn3 HK HG b3
      go_wp2
      go_roundw
      case rel =>
        refine ⟨2 + 1, by omega, by go_num, Lib.hid ?_, Lib.hid ?_⟩
        · exact ((ko_store HK3.out 2 (.int .u64 ((2 + 1 : Nat) : Int)) GE.out).more (by omega) (by omega))
        · have := B3.out.put 2 (.int .u64 ((2 + 1 : Nat) : Int))
          exact this
      case measure => simp [intOf]
    · have R0 : Hid (OneRel w0 g k 0 0 none wr) := Lib.hid ⟨opS 3, HK.out.more (by omega) (by omega), HG.out, op_one⟩
      clear HK HG
      rename World => wo
      rw [show ((3 : Nat) : Int) = 3 from rfl]
      go_wp2
      go_loopw [6, 7, 35] (fun u6 u7 u35 wr => ∃ (j ep : Nat) (h : Option Nat) (hv : Int), j ≤ m ∧ u35 = .int .i64 (j : Nat) ∧ u6 = .int .u64 (ep : Nat) ∧ u7 = .int .i64 hv ∧ hv = hI h ∧ Hid (OneRel w0 g k j ep h wr)) (fun _ _ u35 _ => m - (intOf u35).toNat)
      case atStart => exact ⟨0, 0, none, -1, Nat.zero_le _, rfl, rfl, rfl, rfl, R0⟩
      case round =>
        clear R0
        obtain ⟨j, ep, h, hv, hj, rfl, rfl, rfl, hhv, HR⟩ := hrel
        have HHV := Lib.hid hhv
        clear hhv
        by_cases hlt : j < m
        · obtain ⟨hs16, b, off, rfl, hcell⟩ := H.out j (by have := HM.out; omega)
          have hc2 := ((F0.out.trans HR.out.frm (U := []) (by simp) (by simp)).cell (block_lt_of_cell hcell) (by simp)).trans hcell
          obtain ⟨s, hs⟩ : ∃ s, s = ss.getD j 0 := ⟨_, rfl⟩
          rw [← hs] at hs16 hc2
          clear hcell hs
          obtain ⟨q8, hq8⟩ : ∃ q8, q8 = s / 8 := ⟨_, rfl⟩
          obtain ⟨i, hi⟩ : ∃ i, i = q8 % 3 := ⟨_, rfl⟩
          obtain ⟨m4, hm4⟩ : ∃ m4, m4 = s % 4 := ⟨_, rfl⟩
          have t1 : (s : Int).tdiv 8 = (q8 : Int) := by rw [Int.tdiv_eq_ediv_of_nonneg (by omega)]; omega
          have t2 : (s : Int) / 8 = (q8 : Int) := by omega
          have t3 : (q8 : Int).tmod 3 = (i : Int) := by rw [Int.tmod_eq_emod_of_nonneg (by omega)]; omega
          have t4 : (q8 : Int) % 3 = (i : Int) := by omega
          have t5 : (s : Int).tmod 4 = (m4 : Int) := by rw [Int.tmod_eq_emod_of_nonneg (by omega)]; omega
          have t6 : (s : Int) % 4 = (m4 : Int) := by omega
          have v1 : IntKind.u16.wrap (q8 : Int) = (q8 : Int) := by simp [IntKind.wrap, IntKind.bits, IntKind.signed]; omega
          have v2 : IntKind.u16.wrap (m4 : Int) = (m4 : Int) := by simp [IntKind.wrap, IntKind.bits, IntKind.signed]; omega
          have v3 : IntKind.u64.wrap (i : Int) = (i : Int) := by simp [IntKind.wrap, IntKind.bits, IntKind.signed]; omega
          have hi3 : i < 3 := by omega
          have m44 : m4 = 0 ∨ m4 = 1 ∨ m4 = 2 ∨ m4 = 3 := by omega
          clear hq8 hi hm4
          by_cases hbrk : 100 < j
          ·
            have FIN := Lib.hid (HR.out.frm)
            go_wp2
            go_ret
            exact ⟨rfl, (F0.out.trans FIN.out (U := []) (by simp) (by simp)).below (by simp) (Nat.le_refl _)⟩
          · obtain ⟨S, HK0, HG0, HO0⟩ := HR.out
            have HK := Lib.hid HK0
            have HG := Lib.hid HG0
            have HO := Lib.hid HO0
            have ci := ids_at HG0 hi3
            obtain ⟨o, ho⟩ : ∃ o, o = i + 1 := ⟨_, rfl⟩
            rw [← ho] at ci
            have hi3' : (i : Int) < 3 := by omega
            clear HK0 HG0 HO0
            rcases m44 with rfl | rfl | rfl | rfl
            ·
              rcases h with _ | x
              · obtain rfl : hv = -1 := HHV.out
                by_cases hl : liveS S.ses (i + 1) S.now = true
                · obtain ⟨e1, e2, o3⟩ := HO.out.acq (i := i) hi3 (by omega) hl
                  have AC := ko_acq (i + 1) i bB HK.out (by omega) (by omega) (by omega) (by decide) (by omega)
                  rw [e1, e2] at AC
                  obtain ⟨S', hS'⟩ : ∃ S', S' = acqS S (i + 1) i bB := ⟨_, rfl⟩
                  rw [← hS'] at AC o3
                  rw [← ho] at AC
                  obtain ⟨ep', hep'⟩ : ∃ ep', ep' = ep + 1 := ⟨_, rfl⟩
                  rw [← hep'] at AC o3
                  have ep64 : ep' ≤ 200 := by have := HO.out.le; omega
                  have w1 : IntKind.u64.wrap ((ep : Int) + 1) = (ep' : Int) := by rw [IntKind.wrap_u64]; omega
                  rw [show bB = ⟨#[98]⟩ from rfl] at AC
                  have AC := Lib.hid AC
                  clear e1 e2 hS' hep' hl ho
                  go_wp2_with fail
                  (with_reducible refine AC.out.mono ?_)
                  rintro e w5 ⟨rfl, hk5, hz5⟩
                  have HG := Lib.hid (hz5 g (by simp) _ _ HG.out)
                  have HK := Lib.hid hk5
                  have HO := Lib.hid o3
                  clear hk5 hz5 o3 AC ci
                  have HV := ko_hld bB HK.out (by decide)
                  rw [show hldV S' bB = .tuple #[.int .u64 (i : Nat), .int .u64 (ep' : Nat), .bool true] from by unfold hldV; rw [HO.out.is, HO.out.held.2, HO.out.epv]; rfl, show bB = ⟨#[98]⟩ from rfl] at HV
                  have HV := Lib.hid HV
                  have x3 : i < 3 := (HO.out.yes i rfl).1
                  have x64 : IntKind.u64.wrap (i : Int) = (i : Int) := by simp [IntKind.wrap, IntKind.bits, IntKind.signed]; omega
                  have y1 : decide ((i : Int) ≥ 0) = true := decide_eq_true (by omega)
                  have y2 : decide ((0 : Int) ≤ (i : Int)) = true := decide_eq_true (by omega)
                  go_wp2_with fail
                  (with_reducible refine HV.out.mono ?_)
                  rintro e wz ⟨rfl, hfz⟩
                  have R9 : Hid (OneRel w0 g k (j + 1) ep' (some i) wz) := Lib.hid ⟨S', (HK.out.same hfz).more (by omega) (by omega), hfz.whole HG.out (by simp), HO.out⟩
                  clear hfz HV HK HG HO
                  go_wp2
                  go_roundw
                  case rel => exact ⟨j + 1, ep', some i, (i : Nat), by omega, by go_num, rfl, rfl, rfl, R9⟩
                  case measure => simp [intOf]; omega
                · have hl' : liveS S.ses (i + 1) S.now = false := by simpa using hl
                  obtain ⟨e1, e2⟩ := HO.out.acq_dead (br := i) hl'
                  have AC := ko_acq (i + 1) i bB HK.out (by omega) (by omega) (by omega) (by decide) (by omega)
                  obtain ⟨r, hr⟩ : ∃ r, r = acqR S (i + 1) i bB := ⟨_, rfl⟩
                  rw [e1, e2, ← hr] at AC
                  rw [← ho] at AC
                  rw [show bB = ⟨#[98]⟩ from rfl] at AC
                  have AC := Lib.hid AC
                  clear e1 e2 hr hl hl' ho
                  go_wp2_with fail
                  (with_reducible refine AC.out.mono ?_)
                  rintro e w5 ⟨rfl, hk5, hz5⟩
                  have HG := Lib.hid (hz5 g (by simp) _ _ HG.out)
                  have HK := Lib.hid hk5
                  have HO := Lib.hid HO.out.more
                  clear hk5 hz5 AC ci
                  have HV := ko_hld bB HK.out (by decide)
                  rw [show hldV S bB = .tuple #[.int .u64 0, .int .u64 0, .bool false] from by unfold hldV; rw [HO.out.is]; rfl, show bB = ⟨#[98]⟩ from rfl] at HV
                  have HV := Lib.hid HV
                  go_wp2_with fail
                  (with_reducible refine HV.out.mono ?_)
                  rintro e wz ⟨rfl, hfz⟩
                  have R9 : Hid (OneRel w0 g k (j + 1) ep none wz) := Lib.hid ⟨S, (HK.out.same hfz).more (by omega) (by omega), hfz.whole HG.out (by simp), HO.out⟩
                  clear hfz HV HK HG HO
                  go_wp2
                  go_roundw
                  case rel => exact ⟨j + 1, ep, none, -1, by omega, by go_num, rfl, rfl, rfl, R9⟩
                  case measure => simp [intOf]; omega
              · obtain rfl : hv = (x : Nat) := HHV.out
                obtain ⟨e1, e2⟩ := HO.out.acq_some (i := i) (br := i)
                have AC := ko_acq (i + 1) i bB HK.out (by omega) (by omega) (by omega) (by decide) (by omega)
                obtain ⟨r, hr⟩ : ∃ r, r = acqR S (i + 1) i bB := ⟨_, rfl⟩
                rw [e1, e2, ← hr] at AC
                rw [← ho] at AC
                rw [show bB = ⟨#[98]⟩ from rfl] at AC
                have AC := Lib.hid AC
                have z1 : decide ((x : Int) < 0) = false := decide_eq_false (by omega)
                clear e1 e2 hr ho
                go_wp2_with fail
                (with_reducible refine AC.out.mono ?_)
                rintro e w5 ⟨rfl, hk5, hz5⟩
                have HG := Lib.hid (hz5 g (by simp) _ _ HG.out)
                have HK := Lib.hid hk5
                have HO := Lib.hid HO.out.more
                clear hk5 hz5 AC ci
                have HV := ko_hld bB HK.out (by decide)
                rw [show hldV S bB = .tuple #[.int .u64 (x : Nat), .int .u64 (ep : Nat), .bool true] from by unfold hldV; rw [HO.out.is, HO.out.held.2, HO.out.epv]; rfl, show bB = ⟨#[98]⟩ from rfl] at HV
                have HV := Lib.hid HV
                have x3 : x < 3 := (HO.out.yes x rfl).1
                have x64 : IntKind.u64.wrap (x : Int) = (x : Int) := by simp [IntKind.wrap, IntKind.bits, IntKind.signed]; omega
                have y1 : decide ((x : Int) ≥ 0) = true := decide_eq_true (by omega)
                have y2 : decide ((0 : Int) ≤ (x : Int)) = true := decide_eq_true (by omega)
                go_wp2_with fail
                (with_reducible refine HV.out.mono ?_)
                rintro e wz ⟨rfl, hfz⟩
                have R9 : Hid (OneRel w0 g k (j + 1) ep (some x) wz) := Lib.hid ⟨S, (HK.out.same hfz).more (by omega) (by omega), hfz.whole HG.out (by simp), HO.out⟩
                clear hfz HV HK HG HO
                go_wp2
                go_roundw
                case rel => exact ⟨j + 1, ep, some x, (x : Nat), by omega, by go_num, rfl, rfl, rfl, R9⟩
                case measure => simp [intOf]; omega
            ·
              rcases h with _ | x
              · obtain rfl : hv = -1 := HHV.out
                by_cases hl : liveS S.ses (i + 1) S.now = true
                · obtain ⟨e1, e2, o3⟩ := HO.out.acq (i := i) hi3 (by omega) hl
                  have AC := ko_acq (i + 1) i bB HK.out (by omega) (by omega) (by omega) (by decide) (by omega)
                  rw [e1, e2] at AC
                  obtain ⟨S', hS'⟩ : ∃ S', S' = acqS S (i + 1) i bB := ⟨_, rfl⟩
                  rw [← hS'] at AC o3
                  rw [← ho] at AC
                  obtain ⟨ep', hep'⟩ : ∃ ep', ep' = ep + 1 := ⟨_, rfl⟩
                  rw [← hep'] at AC o3
                  have ep64 : ep' ≤ 200 := by have := HO.out.le; omega
                  have w1 : IntKind.u64.wrap ((ep : Int) + 1) = (ep' : Int) := by rw [IntKind.wrap_u64]; omega
                  rw [show bB = ⟨#[98]⟩ from rfl] at AC
                  have AC := Lib.hid AC
                  clear e1 e2 hS' hep' hl ho
                  go_wp2_with fail
                  (with_reducible refine AC.out.mono ?_)
                  rintro e w5 ⟨rfl, hk5, hz5⟩
                  have HG := Lib.hid (hz5 g (by simp) _ _ HG.out)
                  have HK := Lib.hid hk5
                  have HO := Lib.hid o3
                  clear hk5 hz5 o3 AC ci
                  have HV := ko_hld bB HK.out (by decide)
                  rw [show hldV S' bB = .tuple #[.int .u64 (i : Nat), .int .u64 (ep' : Nat), .bool true] from by unfold hldV; rw [HO.out.is, HO.out.held.2, HO.out.epv]; rfl, show bB = ⟨#[98]⟩ from rfl] at HV
                  have HV := Lib.hid HV
                  have x3 : i < 3 := (HO.out.yes i rfl).1
                  have x64 : IntKind.u64.wrap (i : Int) = (i : Int) := by simp [IntKind.wrap, IntKind.bits, IntKind.signed]; omega
                  have y1 : decide ((i : Int) ≥ 0) = true := decide_eq_true (by omega)
                  have y2 : decide ((0 : Int) ≤ (i : Int)) = true := decide_eq_true (by omega)
                  go_wp2_with fail
                  (with_reducible refine HV.out.mono ?_)
                  rintro e wz ⟨rfl, hfz⟩
                  have R9 : Hid (OneRel w0 g k (j + 1) ep' (some i) wz) := Lib.hid ⟨S', (HK.out.same hfz).more (by omega) (by omega), hfz.whole HG.out (by simp), HO.out⟩
                  clear hfz HV HK HG HO
                  go_wp2
                  go_roundw
                  case rel => exact ⟨j + 1, ep', some i, (i : Nat), by omega, by go_num, rfl, rfl, rfl, R9⟩
                  case measure => simp [intOf]; omega
                · have hl' : liveS S.ses (i + 1) S.now = false := by simpa using hl
                  obtain ⟨e1, e2⟩ := HO.out.acq_dead (br := i) hl'
                  have AC := ko_acq (i + 1) i bB HK.out (by omega) (by omega) (by omega) (by decide) (by omega)
                  obtain ⟨r, hr⟩ : ∃ r, r = acqR S (i + 1) i bB := ⟨_, rfl⟩
                  rw [e1, e2, ← hr] at AC
                  rw [← ho] at AC
                  rw [show bB = ⟨#[98]⟩ from rfl] at AC
                  have AC := Lib.hid AC
                  clear e1 e2 hr hl hl' ho
                  go_wp2_with fail
                  (with_reducible refine AC.out.mono ?_)
                  rintro e w5 ⟨rfl, hk5, hz5⟩
                  have HG := Lib.hid (hz5 g (by simp) _ _ HG.out)
                  have HK := Lib.hid hk5
                  have HO := Lib.hid HO.out.more
                  clear hk5 hz5 AC ci
                  have HV := ko_hld bB HK.out (by decide)
                  rw [show hldV S bB = .tuple #[.int .u64 0, .int .u64 0, .bool false] from by unfold hldV; rw [HO.out.is]; rfl, show bB = ⟨#[98]⟩ from rfl] at HV
                  have HV := Lib.hid HV
                  go_wp2_with fail
                  (with_reducible refine HV.out.mono ?_)
                  rintro e wz ⟨rfl, hfz⟩
                  have R9 : Hid (OneRel w0 g k (j + 1) ep none wz) := Lib.hid ⟨S, (HK.out.same hfz).more (by omega) (by omega), hfz.whole HG.out (by simp), HO.out⟩
                  clear hfz HV HK HG HO
                  go_wp2
                  go_roundw
                  case rel => exact ⟨j + 1, ep, none, -1, by omega, by go_num, rfl, rfl, rfl, R9⟩
                  case measure => simp [intOf]; omega
              · obtain rfl : hv = (x : Nat) := HHV.out
                obtain ⟨e1, e2⟩ := HO.out.acq_some (i := i) (br := i)
                have AC := ko_acq (i + 1) i bB HK.out (by omega) (by omega) (by omega) (by decide) (by omega)
                obtain ⟨r, hr⟩ : ∃ r, r = acqR S (i + 1) i bB := ⟨_, rfl⟩
                rw [e1, e2, ← hr] at AC
                rw [← ho] at AC
                rw [show bB = ⟨#[98]⟩ from rfl] at AC
                have AC := Lib.hid AC
                have z1 : decide ((x : Int) < 0) = false := decide_eq_false (by omega)
                clear e1 e2 hr ho
                go_wp2_with fail
                (with_reducible refine AC.out.mono ?_)
                rintro e w5 ⟨rfl, hk5, hz5⟩
                have HG := Lib.hid (hz5 g (by simp) _ _ HG.out)
                have HK := Lib.hid hk5
                have HO := Lib.hid HO.out.more
                clear hk5 hz5 AC ci
                have HV := ko_hld bB HK.out (by decide)
                rw [show hldV S bB = .tuple #[.int .u64 (x : Nat), .int .u64 (ep : Nat), .bool true] from by unfold hldV; rw [HO.out.is, HO.out.held.2, HO.out.epv]; rfl, show bB = ⟨#[98]⟩ from rfl] at HV
                have HV := Lib.hid HV
                have x3 : x < 3 := (HO.out.yes x rfl).1
                have x64 : IntKind.u64.wrap (x : Int) = (x : Int) := by simp [IntKind.wrap, IntKind.bits, IntKind.signed]; omega
                have y1 : decide ((x : Int) ≥ 0) = true := decide_eq_true (by omega)
                have y2 : decide ((0 : Int) ≤ (x : Int)) = true := decide_eq_true (by omega)
                go_wp2_with fail
                (with_reducible refine HV.out.mono ?_)
                rintro e wz ⟨rfl, hfz⟩
                have R9 : Hid (OneRel w0 g k (j + 1) ep (some x) wz) := Lib.hid ⟨S, (HK.out.same hfz).more (by omega) (by omega), hfz.whole HG.out (by simp), HO.out⟩
                clear hfz HV HK HG HO
                go_wp2
                go_roundw
                case rel => exact ⟨j + 1, ep, some x, (x : Nat), by omega, by go_num, rfl, rfl, rfl, R9⟩
                case measure => simp [intOf]; omega
            ·
              rcases h with _ | x
              · obtain rfl : hv = -1 := HHV.out
                have b2 : ((-1 : Int) == (i : Int)) = false := by first | (simp; done) | (simp; omega)
                have RL := ko_rel (i + 1) bB HK.out (by omega) (by decide) (by omega)
                obtain ⟨e1, e2⟩ := HO.out.rel_no (i := i) (by simp)
                obtain ⟨r, hr⟩ : ∃ r, r = relE S (i + 1) bB := ⟨_, rfl⟩
                rw [← hr] at e1
                rw [e2, ← hr] at RL
                rw [← ho] at RL
                rw [show bB = ⟨#[98]⟩ from rfl] at RL
                have RL := Lib.hid RL
                have b1 : ((r : Int) == 0) = false := by simp; omega
                clear e1 e2 hr ho
                go_wp2_with fail
                (with_reducible refine RL.out.mono ?_)
                rintro e w5 ⟨rfl, hk5, hz5⟩
                have HG := Lib.hid (hz5 g (by simp) _ _ HG.out)
                have HK := Lib.hid hk5
                have HO := Lib.hid HO.out.more
                clear hk5 hz5 RL ci
                have HV := ko_hld bB HK.out (by decide)
                rw [show hldV S bB = .tuple #[.int .u64 0, .int .u64 0, .bool false] from by unfold hldV; rw [HO.out.is]; rfl, show bB = ⟨#[98]⟩ from rfl] at HV
                have HV := Lib.hid HV
                go_wp2_with fail
                (with_reducible refine HV.out.mono ?_)
                rintro e wz ⟨rfl, hfz⟩
                have R9 : Hid (OneRel w0 g k (j + 1) ep none wz) := Lib.hid ⟨S, (HK.out.same hfz).more (by omega) (by omega), hfz.whole HG.out (by simp), HO.out⟩
                clear hfz HV HK HG HO
                go_wp2
                go_roundw
                case rel => exact ⟨j + 1, ep, none, -1, by omega, by go_num, rfl, rfl, rfl, R9⟩
                case measure => simp [intOf]; omega
              · obtain rfl : hv = (x : Nat) := HHV.out
                by_cases hx : x = i
                · subst hx
                  obtain ⟨e1, o3⟩ := HO.out.rel
                  have RL := ko_rel (x + 1) bB HK.out (by omega) (by decide) (by omega)
                  obtain ⟨S', hS'⟩ : ∃ S', S' = relS S (x + 1) bB := ⟨_, rfl⟩
                  rw [← hS'] at o3 RL
                  rw [e1] at RL
                  rw [← ho] at RL
                  rw [show bB = ⟨#[98]⟩ from rfl] at RL
                  have RL := Lib.hid RL
                  have b2 : ((x : Int) == (x : Int)) = true := by simp
                  clear e1 hS' ho
                  go_wp2_with fail
                  (with_reducible refine RL.out.mono ?_)
                  rintro e w5 ⟨rfl, hk5, hz5⟩
                  have HG := Lib.hid (hz5 g (by simp) _ _ HG.out)
                  have HK := Lib.hid hk5
                  have HO := Lib.hid o3
                  clear hk5 hz5 RL ci o3
                  have HV := ko_hld bB HK.out (by decide)
                  rw [show hldV S' bB = .tuple #[.int .u64 0, .int .u64 0, .bool false] from by unfold hldV; rw [HO.out.is]; rfl, show bB = ⟨#[98]⟩ from rfl] at HV
                  have HV := Lib.hid HV
                  go_wp2_with fail
                  (with_reducible refine HV.out.mono ?_)
                  rintro e wz ⟨rfl, hfz⟩
                  have R9 : Hid (OneRel w0 g k (j + 1) ep none wz) := Lib.hid ⟨S', (HK.out.same hfz).more (by omega) (by omega), hfz.whole HG.out (by simp), HO.out⟩
                  clear hfz HV HK HG HO
                  go_wp2
                  go_roundw
                  case rel => exact ⟨j + 1, ep, none, -1, by omega, by go_num, rfl, rfl, rfl, R9⟩
                  case measure => simp [intOf]; omega
                · have b2 : ((x : Int) == (i : Int)) = false := by simp; omega
                  have RL := ko_rel (i + 1) bB HK.out (by omega) (by decide) (by omega)
                  obtain ⟨e1, e2⟩ := HO.out.rel_no (i := i) (by simpa using hx)
                  obtain ⟨r, hr⟩ : ∃ r, r = relE S (i + 1) bB := ⟨_, rfl⟩
                  rw [← hr] at e1
                  rw [e2, ← hr] at RL
                  rw [← ho] at RL
                  rw [show bB = ⟨#[98]⟩ from rfl] at RL
                  have RL := Lib.hid RL
                  have b1 : ((r : Int) == 0) = false := by simp; omega
                  clear e1 e2 hr ho
                  go_wp2_with fail
                  (with_reducible refine RL.out.mono ?_)
                  rintro e w5 ⟨rfl, hk5, hz5⟩
                  have HG := Lib.hid (hz5 g (by simp) _ _ HG.out)
                  have HK := Lib.hid hk5
                  have HO := Lib.hid HO.out.more
                  clear hk5 hz5 RL ci
                  clear hx
                  have HV := ko_hld bB HK.out (by decide)
                  rw [show hldV S bB = .tuple #[.int .u64 (x : Nat), .int .u64 (ep : Nat), .bool true] from by unfold hldV; rw [HO.out.is, HO.out.held.2, HO.out.epv]; rfl, show bB = ⟨#[98]⟩ from rfl] at HV
                  have HV := Lib.hid HV
                  have x3 : x < 3 := (HO.out.yes x rfl).1
                  have x64 : IntKind.u64.wrap (x : Int) = (x : Int) := by simp [IntKind.wrap, IntKind.bits, IntKind.signed]; omega
                  have y1 : decide ((x : Int) ≥ 0) = true := decide_eq_true (by omega)
                  have y2 : decide ((0 : Int) ≤ (x : Int)) = true := decide_eq_true (by omega)
                  go_wp2_with fail
                  (with_reducible refine HV.out.mono ?_)
                  rintro e wz ⟨rfl, hfz⟩
                  have R9 : Hid (OneRel w0 g k (j + 1) ep (some x) wz) := Lib.hid ⟨S, (HK.out.same hfz).more (by omega) (by omega), hfz.whole HG.out (by simp), HO.out⟩
                  clear hfz HV HK HG HO
                  go_wp2
                  go_roundw
                  case rel => exact ⟨j + 1, ep, some x, (x : Nat), by omega, by go_num, rfl, rfl, rfl, R9⟩
                  case measure => simp [intOf]; omega
            ·
              have O9 := HO.out.tick i hi3
              have D1 := ko_do (tickC 1) none 0 HK.out (by omega) (tickC_ok (by decide)) (Bytes.nil _) (fun _ => rfl) (by decide) (by decide) (by omega)
              rw [show cmdV (tickC 1) none 0 = .agg #[.int .u8 6, .string ⟨#[]⟩, .slice none 0 0, .int .u64 0, .int .u64 0, .int .u64 1] from rfl] at D1
              obtain ⟨E1, hE1⟩ : ∃ E1, E1 = doE S (tickC 1) := ⟨_, rfl⟩
              rw [← hE1] at D1
              have D1 := Lib.hid D1
              clear hE1
              go_wp2_with fail
              (with_reducible refine D1.out.mono ?_)
              rintro e w5 ⟨r5, ga5, gn5, gc5, rfl, _, hk5, hz5⟩
              have HG := Lib.hid (hz5 g (by simp) _ _ HG.out)
              have ci := ids_at HG.out hi3
              have D2 := ko_do (renewCm (i + 1)) none 0 hk5 (by omega) (renewCm_ok (by omega)) (Bytes.nil _) (fun _ => rfl) (by show (4 : Nat) ≠ 7; decide) (by show (0 : Nat) ≤ 4000; decide) (by omega)
              rw [← ho] at ci
              rw [show cmdV (renewCm (i + 1)) none 0 = .agg #[.int .u8 4, .string ⟨#[]⟩, .slice none 0 0, .int .u64 0, .int .u64 (o : Nat), .int .u64 0] from by rw [ho]; rfl, show doS (doS S (tickC 1)) (renewCm (i + 1)) = owNext S i from rfl] at D2
              obtain ⟨E2, hE2⟩ : ∃ E2, E2 = doE (doS S (tickC 1)) (renewCm (i + 1)) := ⟨_, rfl⟩
              rw [← hE2] at D2
              have D2 := Lib.hid D2
              clear hE2 hk5 hz5 D1 HK ho
              go_wp2_with fail
              (with_reducible refine D2.out.mono ?_)
              rintro e w6 ⟨r6, ga6, gn6, gc6, rfl, _, hk6, hz6⟩
              have HG := Lib.hid (hz6 g (by simp) _ _ HG.out)
              have HK := Lib.hid hk6
              obtain ⟨S', hS'⟩ : ∃ S', S' = owNext S i := ⟨_, rfl⟩
              rw [← hS'] at HK O9
              clear hk6 hz6 D2 ci hS'
              rcases h with _ | x
              · obtain rfl : hv = -1 := HHV.out
                have HO : Hid (OwOne S' (j + 1) ep none) := Lib.hid O9
                clear O9
                have HV := ko_hld bB HK.out (by decide)
                rw [show hldV S' bB = .tuple #[.int .u64 0, .int .u64 0, .bool false] from by unfold hldV; rw [HO.out.is]; rfl, show bB = ⟨#[98]⟩ from rfl] at HV
                have HV := Lib.hid HV
                go_wp2_with fail
                (with_reducible refine HV.out.mono ?_)
                rintro e wz ⟨rfl, hfz⟩
                have R9 : Hid (OneRel w0 g k (j + 1) ep none wz) := Lib.hid ⟨S', (HK.out.same hfz).more (by omega) (by omega), hfz.whole HG.out (by simp), HO.out⟩
                clear hfz HV HK HG HO
                go_wp2
                go_roundw
                case rel => exact ⟨j + 1, ep, none, -1, by omega, by go_num, rfl, rfl, rfl, R9⟩
                case measure => simp [intOf]; omega
              · obtain rfl : hv = (x : Nat) := HHV.out
                have x3 : x < 3 := (HO.out.yes x rfl).1
                have cx := ids_at HG.out x3
                have LV := ko_live (x + 1) HK.out
                obtain ⟨ox, hox⟩ : ∃ ox, ox = x + 1 := ⟨_, rfl⟩
                rw [← hox] at cx LV
                obtain ⟨lb, hlb⟩ : ∃ lb, lb = liveS S'.ses ox S'.now := ⟨_, rfl⟩
                have HLB := Lib.hid hlb
                rw [← hlb] at LV
                have LV := Lib.hid LV
                have HOX := Lib.hid hox
                have y1 : decide ((x : Int) ≥ 0) = true := decide_eq_true (by omega)
                have y2 : decide ((0 : Int) ≤ (x : Int)) = true := decide_eq_true (by omega)
                clear hlb hox HO
                go_wp2_with fail
                (with_reducible refine LV.out.mono ?_)
                rintro e w7 ⟨rfl, hf7⟩
                have HK := Lib.hid (HK.out.same hf7)
                have HG := Lib.hid (hf7.whole HG.out (by simp))
                clear hf7 LV cx y1 y2 x3
                cases lb
                · have HO : Hid (OwOne S' (j + 1) ep none) := Lib.hid (by
                    have e := HLB.out
                    rw [HOX.out] at e
                    simp only [Option.filter, ← e] at O9
                    exact O9)
                  clear O9
                  have HV := ko_hld bB HK.out (by decide)
                  rw [show hldV S' bB = .tuple #[.int .u64 0, .int .u64 0, .bool false] from by unfold hldV; rw [HO.out.is]; rfl, show bB = ⟨#[98]⟩ from rfl] at HV
                  have HV := Lib.hid HV
                  go_wp2_with fail
                  (with_reducible refine HV.out.mono ?_)
                  rintro e wz ⟨rfl, hfz⟩
                  have R9 : Hid (OneRel w0 g k (j + 1) ep none wz) := Lib.hid ⟨S', (HK.out.same hfz).more (by omega) (by omega), hfz.whole HG.out (by simp), HO.out⟩
                  clear hfz HV HK HG HO
                  go_wp2
                  go_roundw
                  case rel => exact ⟨j + 1, ep, none, -1, by omega, by go_num, rfl, rfl, rfl, R9⟩
                  case measure => simp [intOf]; omega
                · have HO : Hid (OwOne S' (j + 1) ep (some x)) := Lib.hid (by
                    have e := HLB.out
                    rw [HOX.out] at e
                    simp only [Option.filter, ← e] at O9
                    exact O9)
                  clear O9
                  have HV := ko_hld bB HK.out (by decide)
                  rw [show hldV S' bB = .tuple #[.int .u64 (x : Nat), .int .u64 (ep : Nat), .bool true] from by unfold hldV; rw [HO.out.is, HO.out.held.2, HO.out.epv]; rfl, show bB = ⟨#[98]⟩ from rfl] at HV
                  have HV := Lib.hid HV
                  have x3 : x < 3 := (HO.out.yes x rfl).1
                  have x64 : IntKind.u64.wrap (x : Int) = (x : Int) := by simp [IntKind.wrap, IntKind.bits, IntKind.signed]; omega
                  have y1 : decide ((x : Int) ≥ 0) = true := decide_eq_true (by omega)
                  have y2 : decide ((0 : Int) ≤ (x : Int)) = true := decide_eq_true (by omega)
                  go_wp2_with fail
                  (with_reducible refine HV.out.mono ?_)
                  rintro e wz ⟨rfl, hfz⟩
                  have R9 : Hid (OneRel w0 g k (j + 1) ep (some x) wz) := Lib.hid ⟨S', (HK.out.same hfz).more (by omega) (by omega), hfz.whole HG.out (by simp), HO.out⟩
                  clear hfz HV HK HG HO
                  go_wp2
                  go_roundw
                  case rel => exact ⟨j + 1, ep, some x, (x : Nat), by omega, by go_num, rfl, rfl, rfl, R9⟩
                  case measure => simp [intOf]; omega
        · obtain rfl : j = m := by omega
          have FIN := Lib.hid (HR.out.frm)
          go_wp2
          go_ret
          exact ⟨rfl, (F0.out.trans FIN.out (U := []) (by simp) (by simp)).below (by simp) (Nat.le_refl _)⟩
end Go.Proofs.YtcbpppdmkhpkkaaGreat
