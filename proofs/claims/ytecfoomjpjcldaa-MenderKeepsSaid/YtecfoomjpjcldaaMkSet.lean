/- The document's Set, with where its row lies. -/
import Derived.Test.YtecfoomjpjcldaaQuRef
namespace Go.Proofs.Ytecfoomjpjcldaa
open Go.RowKit
set_option maxHeartbeats 4000000 in
theorem rset_new (P W A e : Nat) (w : World) (hA : 1 ≤ A) (hAW : A ≤ W) (h7 : P ≤ 7) (hW : W ≤ P) (_he : e < 18446744073709551616) :
    Calls Try.prog 19 #[quV P W A, .int .u64 (e : Nat)] w fun x w' => ∃ a cap, x = .returned (.slice a W cap) ∧ IIn w' a (setN P W e) ∧ (∀ x, a = some x → w.heap.size ≤ x.block) ∧ Frm [] w w' := by
  obtain ⟨i0, hi0, hz0, hz1, hz2⟩ := info_parts infoInt
  have HI := Lib.hid hi0
  have HZ0 := Lib.hid hz0
  have HZ1 := Lib.hid hz1
  have HZ2 := Lib.hid hz2
  clear hi0 hz0 hz1 hz2
  have hr : e % P < P := Nat.mod_lt _ (by omega)
  have a1 : IntKind.u64.wrap (P : Int) = (P : Int) := by simp [IntKind.wrap, IntKind.bits, IntKind.signed]; omega
  have a1' : (P : Int) % 18446744073709551616 = (P : Int) := by omega
  have a2 : (P : Int) ≠ 0 := by omega
  have a3 : ((e : Int)).tmod (P : Int) = ((e % P : Nat) : Int) := modI e P
  have HPZ := Lib.hid (plN_zero P e)
  obtain ⟨r, hre⟩ : ∃ r, r = e % P := ⟨_, rfl⟩
  rw [← hre] at a3 hr HPZ
  have a4 : IntKind.u64.wrap (r : Int) = (r : Int) := by simp [IntKind.wrap, IntKind.bits, IntKind.signed]; omega
  have a4' : (r : Int) % 18446744073709551616 = (r : Int) := by omega
  have a5 : IntKind.i64.wrap (r : Int) = (r : Int) := by simp [IntKind.wrap, IntKind.bits, IntKind.signed]; omega
  have HRE := Lib.hid hre; clear hre
  have CK := Lib.hid (fun z => rcheck_any P W A z)
  rw [(okQ_iff P W A).2 (by omega)] at CK
  go_enter Try.func19, Try.ntmps19
  have HQ0 := Lib.hid (Whole.made w 23 (quC P W A))
  have HF0 := Lib.hid ((Frm.refl [] w).alloc (.cells (quC P W A) 23))
  have c0 : (w.alloc (.cells (quC P W A) 23)).cell? ⟨w.heap.size, 0, none⟩ = some (.int .i64 (P : Int)) := (Whole.made w _ _).cell 0
  have c1 : (w.alloc (.cells (quC P W A) 23)).cell? ⟨w.heap.size, 1, none⟩ = some (.int .i64 (W : Int)) := (Whole.made w _ _).cell 1
  have c2 : (w.alloc (.cells (quC P W A) 23)).cell? ⟨w.heap.size, 2, none⟩ = some (.int .i64 (A : Int)) := (Whole.made w _ _).cell 2
  go_wp2_with fail
  generalize hw0 : w.alloc (.cells (quC P W A) 23) = w0 at c0 c1 c2 HQ0 HF0 ⊢
  clear hw0
  obtain ⟨p, hp⟩ : ∃ p, p = w.heap.size := ⟨_, rfl⟩
  rw [← hp] at HQ0 c0 c1 c2 ⊢
  clear hp
  refine (CK.out w0).mono ?_
  rintro x w1 ⟨rfl, hf1⟩
  have HQ1 := Lib.hid (hf1.whole HQ0.out (by simp))
  have HF1 := Lib.hid (HF0.out.trans hf1 (U := []) (by simp) (by simp))
  have d0 : w1.cell? ⟨p, 0, none⟩ = some (.int .i64 (P : Int)) := HQ1.out.cell 0
  have HR0 : Hid (RsRel w p P W A e (.slice none 0 0) (.int .i64 (r : Nat)) (.int .i64 (0 : Nat)) w1) := Lib.hid ⟨0, none, 0, Nat.zero_le _, rfl, by rw [HPZ.out], rfl, Lib.hid (World.ownsRow_nil _ _ _ _), HF1, HQ1⟩
  clear hf1 HQ0 HF0 c0 c1 c2 CK HF1 HQ1
  go_wp2
  clear d0
  go_loopw [5, 6, 7] (fun s5 s6 s7 wr => RsRel w p P W A e s5 s6 s7 wr) (fun _ _ s7 _ => W - (intOf s7).toNat)
  case atStart => exact HR0.out
  case round =>
    clear HR0 a1 a1' a2 a3 a4 a4' a5 HRE HPZ hr
    obtain ⟨k, a, cap, hk, rfl, rfl, rfl, HO, HF, HQ⟩ := hrel
    have c0 : wr.cell? ⟨p, 0, none⟩ = some (.int .i64 (P : Int)) := HQ.out.cell 0
    have c1 : wr.cell? ⟨p, 1, none⟩ = some (.int .i64 (W : Int)) := HQ.out.cell 1
    by_cases hlt : k < W
    · have HPN := Lib.hid (plN_next P e k (by omega))
      have HSN := Lib.hid (setN_succ P k e)
      have hqp := plN_lt (show 0 < P by omega) e k
      obtain ⟨q, hq⟩ : ∃ q, q = plN P e k := ⟨_, rfl⟩
      rw [← hq] at HPN HSN hqp ⊢
      clear hq
      have hkm : k ≤ 7 := by omega
      go_wp2_with (at_builtin; refine wpList_appV rfl (.tmp 23) (.tmp 25) 52 rfl w.heap.size 3 i0 (.int .i64 0) 8 Try.underlying52 HI.out HZ0.out rfl HZ1.out HZ2.out (by decide) (.slice a k cap) k _ rfl (World.ownsRow.alloc HO.out _) (some ⟨wr.heap.size, 0, none⟩) 1 1 (ivs [q]) rfl ?b1 rfl (by simp [ivs, Value.oneCell']) (fun h => by cases h) (by omega) (by have := HF.out.size; simp; omega) ?_)
      case b1 => exact ValsAt.one wr _ _
      intro a' cap' w2 happ
      have hf2 : Frm (blk a) wr w2 := (((Frm.refl (blk a) wr).alloc _).grown happ.grown (fun g hg => .inl (qblk3.1 hg)))
      have hb2 : ∀ g ∈ blk a, w.heap.size ≤ g := fun g hg => (World.ownsRow.lt HO.out g (qblk3.2 hg)).1
      have HF2 : Hid (Frm [] w w2) := Lib.hid (HF.out.trans hf2 (U := []) (by simp) (fun x hx => .inr (hb2 x hx)))
      have HQ2 : Hid (Whole w2 p 23 (quC P W A)) := Lib.hid (hf2.whole HQ.out (fun hm => own_ne HO.out HQ.out (by decide) (qblk3.2 hm)))
      have HO2 : Hid (w2.ownsRow w.heap.size 3 1 (.slice a' (k + 1) cap') (k + 1) (ivs (setN P (k + 1) e))) := Lib.hid (by
        have := happ.own
        rw [← ivs_append, ← HSN.out] at this
        exact this)
      have d0 : w2.cell? ⟨p, 0, none⟩ = some (.int .i64 (P : Int)) := HQ2.out.cell 0
      clear happ hf2 hb2 HO HF HQ c0 c1
      have hw1 : IntKind.i64.wrap ((q : Int) + 1) = ((q + 1 : Nat) : Int) := IntWalk.i64_in _ (by omega)
      by_cases hqe : q + 1 = P
      · have hd : (((q + 1 : Nat) : Int) == (P : Int)) = true := by rw [hqe]; simp
        have hd' : ((q : Int) + 1 == (P : Int)) = true := by rw [← hqe]; simp
        rw [if_pos hqe] at HPN
        go_wp2
        go_roundw
        case rel => exact ⟨k + 1, a', cap', hlt, by go_num, by rw [HPN.out]; rfl, rfl, HO2, HF2, HQ2⟩
        case measure => simp [intOf]; omega
      · have hd : (((q + 1 : Nat) : Int) == (P : Int)) = false := by simp; omega
        have hd' : ((q : Int) + 1 == (P : Int)) = false := by simp; omega
        rw [if_neg hqe] at HPN
        go_wp2
        go_roundw
        case rel => exact ⟨k + 1, a', cap', hlt, by go_num, by rw [HPN.out]; go_num, rfl, HO2, HF2, HQ2⟩
        case measure => simp [intOf]; omega
    · obtain rfl : k = W := by omega
      go_wp2
      go_ret
      exact ⟨a, cap, rfl, own_iin HO.out, fun x hx => (World.ownsRow.lt HO.out x.block (by rw [hx]; rfl)).1, HF.out⟩
end Go.Proofs.Ytecfoomjpjcldaa
