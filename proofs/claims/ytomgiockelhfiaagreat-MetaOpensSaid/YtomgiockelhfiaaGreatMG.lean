/- Contracts and mathematics that the proofs of this seat stand on: RdDo2, RdDo3, RdDo4, RdDo5, RdDo6, RdDoAll. -/
import Derived.Test.YtomgiockelhfiaaGreatMF
import Derived.Test.YtomgiockelhfiaaGreatMD
/- Contract of the document's State.Do: Delete, Open. (Made by wip/mk-rd.py.) -/
namespace Go.Proofs.YtomgiockelhfiaaGreat
open Go.RowKit
set_option maxRecDepth 100000

set_option maxHeartbeats 8000000 in
/-- Delete. -/
theorem rdo_del {w : World} {B q : Nat} {F : List Nat} {S : MS} (c : MC) (a : Option Addr) (cap : Nat) (h : Ds w B q F S) (hM : MOk S) (hc : MCOk c) (hF : ∀ x ∈ F, x < w.heap.size) (hk : c.kind = 2) :
    Calls Tryz.prog 19 #[.pointer (some ⟨q, 0, none⟩), cmdV c a cap] w (RdEnd w B q F S c) := by
  obtain ⟨w0, hw0⟩ : ∃ w0, w0 = w.alloc (.cells (cmdC c a cap) 51) := ⟨_, rfl⟩
  obtain ⟨g, hg⟩ : ∃ g, g = w.heap.size := ⟨_, rfl⟩
  obtain ⟨hW, hf0⟩ := cmd_at hw0 hg
  have hgq : g ≠ q := by have := h.plt; omega
  have h0 : Ds w0 B q F S := h.keep hf0 (by simp) (by simp)
  have hF0 : ∀ x ∈ F, x < w0.heap.size := fun x hx => Nat.lt_of_lt_of_le (hF x hx) hf0.size
  have H0 := Lib.hid h0
  have HF0 := Lib.hid hf0
  have HFF := Lib.hid hF0
  have HM := Lib.hid hM
  have HC := Lib.hid hc
  have HW := Lib.hid hw0
  have HG := Lib.hid hg
  have HWG := Lib.hid hW
  have HQL := Lib.hid h.plt
  obtain ⟨Q, hQ⟩ : ∃ Q, Q = RdEnd w B q F S c := ⟨_, rfl⟩
  rw [← hQ]
  have HQ := Lib.hid hQ
  have d0 : w0.cell? ⟨g, 0, none⟩ = some (.int .u8 (c.kind : Nat)) := hW.cell 0
  have d1 : w0.cell? ⟨g, 1, none⟩ = some (.string c.key) := hW.cell 1
  have d3 : w0.cell? ⟨g, 3, none⟩ = some (.int .u64 (c.want : Nat)) := hW.cell 3
  have d4 : w0.cell? ⟨g, 4, none⟩ = some (.int .u64 (c.ses : Nat)) := hW.cell 4
  have d5 : w0.cell? ⟨g, 5, none⟩ = some (.int .u64 (c.ticks : Nat)) := hW.cell 5
  have n0 := h0.n0
  rw [show cmdV c a cap = .agg #[.int .u8 (c.kind : Nat), .string c.key, .slice a c.val.length cap, .int .u64 (c.want : Nat), .int .u64 (c.ses : Nat), .int .u64 (c.ticks : Nat)] from rfl]
  rw [show cmdC c a cap = #[.int .u8 (c.kind : Nat), .string c.key, .slice a c.val.length cap, .int .u64 (c.want : Nat), .int .u64 (c.ses : Nat), .int .u64 (c.ticks : Nat)] from rfl] at HW
  have HK := Lib.hid hk
  have hnow : S.now < 18446744073709551616 := by have := hM.now; omega
  rw [hk] at d0 HW ⊢
  rw [show ((2 : Nat) : Int) = 2 from rfl] at d0 HW ⊢
  have KEEP := Lib.hid (fun (z : World) (hz : Frm [] w0 z) => (show Ds z B q F S ∧ (∀ x ∈ F, x < z.heap.size) ∧ Frm [] w z ∧ OthS q w z from ⟨h0.keep hz (by simp) (by simp), fun x hx => Nat.lt_of_lt_of_le (hF0 x hx) hz.size, hf0.trans hz (U := []) (by simp) (by simp), OthS.frm (hf0.trans hz (U := []) (by simp) (by simp)) h.plt⟩))
  clear h hM hc hF hk hW hf0 h0 hF0 hQ hw0 hg
  have HCA := Lib.hid (fun (z : World) (hz : Frm [] w0 z) => ds_del c.key c.want (KEEP.out z hz).1 HM.out.good (KEEP.out z hz).2.1)
  have GO : Hid (∀ z w1, Frm [] w0 z → Ds w1 B q F { S with nodes := delL S.nodes c.key c.want } → Frm [q] z w1 → OthS q z w1 → Q (.returned (.tuple #[.int .u64 (0 : Nat), .slice none 0 0, .int .i64 (delN S.nodes c.key c.want : Nat)])) w1) := Lib.hid fun z w1 hz hd hf ho => by
    have HZ := KEEP.out z hz
    rw [HQ.out]
    refine RdEnd.mk (S' := { S with nodes := delL S.nodes c.key c.want }) (n := 0) (e := delN S.nodes c.key c.want) ?_ ?_ ?_ ?_ hd (HZ.2.2.1.trans hf (by simp) (fun x hx => .inl hx)) (HZ.2.2.2.trans ho) rfl
    · unfold doN; rw [if_neg (by have := HK.out; omega), if_neg (by have := HK.out; omega), if_neg (by have := HK.out; omega)]
    · unfold doE; rw [if_neg (by have := HK.out; omega), if_pos HK.out]
    · unfold doG; rw [if_neg (by have := HK.out; omega)]
    · unfold doS; rw [if_neg (by have := HK.out; omega), if_pos HK.out]
  obtain ⟨en, hen⟩ : ∃ en, en = delN S.nodes c.key c.want := ⟨_, rfl⟩
  rw [← hen] at GO HCA
  rw [show ((0 : Nat) : Int) = 0 from rfl] at GO
  clear hen
  go_enter Tryz.func19, Tryz.ntmps19
  go_wp2
  rw [← HW.out, ← HG.out]
  go_quiet (fail)
  go_wp2
  have s1 : Frm [] w0 (w0.drewN (nq + 1)) := (Frm.refl _ _).drewN _
  go_region_law (first
    | (go_simp; go_at_call 51; (with_reducible refine (HCA.out _ s1).mono ?_); rintro e w2 ⟨rfl, hd2, hf2, ho2⟩))
  all_goals
    have HE := Lib.hid (GO.out _ _ s1 hd2 hf2 ho2)
    clear hd2 hf2 ho2
    go_wp2
    first
      | exact HE.out
      | (go_ret3; exact HE.out)

set_option maxHeartbeats 8000000 in
/-- Open. -/
theorem rdo_open {w : World} {B q : Nat} {F : List Nat} {S : MS} (c : MC) (a : Option Addr) (cap : Nat) (h : Ds w B q F S) (hM : MOk S) (hc : MCOk c) (hF : ∀ x ∈ F, x < w.heap.size) (hk : c.kind = 3) :
    Calls Tryz.prog 19 #[.pointer (some ⟨q, 0, none⟩), cmdV c a cap] w (RdEnd w B q F S c) := by
  obtain ⟨w0, hw0⟩ : ∃ w0, w0 = w.alloc (.cells (cmdC c a cap) 51) := ⟨_, rfl⟩
  obtain ⟨g, hg⟩ : ∃ g, g = w.heap.size := ⟨_, rfl⟩
  obtain ⟨hW, hf0⟩ := cmd_at hw0 hg
  have hgq : g ≠ q := by have := h.plt; omega
  have h0 : Ds w0 B q F S := h.keep hf0 (by simp) (by simp)
  have hF0 : ∀ x ∈ F, x < w0.heap.size := fun x hx => Nat.lt_of_lt_of_le (hF x hx) hf0.size
  have H0 := Lib.hid h0
  have HF0 := Lib.hid hf0
  have HFF := Lib.hid hF0
  have HM := Lib.hid hM
  have HC := Lib.hid hc
  have HW := Lib.hid hw0
  have HG := Lib.hid hg
  have HWG := Lib.hid hW
  have HQL := Lib.hid h.plt
  obtain ⟨Q, hQ⟩ : ∃ Q, Q = RdEnd w B q F S c := ⟨_, rfl⟩
  rw [← hQ]
  have HQ := Lib.hid hQ
  have d0 : w0.cell? ⟨g, 0, none⟩ = some (.int .u8 (c.kind : Nat)) := hW.cell 0
  have d1 : w0.cell? ⟨g, 1, none⟩ = some (.string c.key) := hW.cell 1
  have d3 : w0.cell? ⟨g, 3, none⟩ = some (.int .u64 (c.want : Nat)) := hW.cell 3
  have d4 : w0.cell? ⟨g, 4, none⟩ = some (.int .u64 (c.ses : Nat)) := hW.cell 4
  have d5 : w0.cell? ⟨g, 5, none⟩ = some (.int .u64 (c.ticks : Nat)) := hW.cell 5
  have n0 := h0.n0
  rw [show cmdV c a cap = .agg #[.int .u8 (c.kind : Nat), .string c.key, .slice a c.val.length cap, .int .u64 (c.want : Nat), .int .u64 (c.ses : Nat), .int .u64 (c.ticks : Nat)] from rfl]
  rw [show cmdC c a cap = #[.int .u8 (c.kind : Nat), .string c.key, .slice a c.val.length cap, .int .u64 (c.want : Nat), .int .u64 (c.ses : Nat), .int .u64 (c.ticks : Nat)] from rfl] at HW
  have HK := Lib.hid hk
  have hnow : S.now < 18446744073709551616 := by have := hM.now; omega
  rw [hk] at d0 HW ⊢
  rw [show ((3 : Nat) : Int) = 3 from rfl] at d0 HW ⊢
  have KEEP := Lib.hid (fun (z : World) (hz : Frm [] w0 z) => (show Ds z B q F S ∧ (∀ x ∈ F, x < z.heap.size) ∧ Frm [] w z ∧ OthS q w z from ⟨h0.keep hz (by simp) (by simp), fun x hx => Nat.lt_of_lt_of_le (hF0 x hx) hz.size, hf0.trans hz (U := []) (by simp) (by simp), OthS.frm (hf0.trans hz (U := []) (by simp) (by simp)) h.plt⟩))
  clear h hM hc hF hk hW hf0 h0 hF0 hQ hw0 hg
  have HCA := Lib.hid (fun (z : World) (hz : Frm [] w0 z) => ds_open S.now c.ticks (KEEP.out z hz).1 (KEEP.out z hz).2.1 hnow HC.out.ticks)
  have GO : Hid (∀ z w1, Frm [] w0 z → Ds w1 B q F { S with last := openT S.last S.ses.length c.ticks, ses := openS S.ses S.last S.now c.ticks } → Frm [q] z w1 → OthS q z w1 → Q (.returned (.tuple #[.int .u64 (openR S.last S.ses.length c.ticks : Nat), .slice none 0 0, .int .i64 (openC S.last S.ses.length c.ticks : Nat)])) w1) := Lib.hid fun z w1 hz hd hf ho => by
    have HZ := KEEP.out z hz
    rw [HQ.out]
    refine RdEnd.mk (S' := { S with last := openT S.last S.ses.length c.ticks, ses := openS S.ses S.last S.now c.ticks }) (n := openR S.last S.ses.length c.ticks) (e := openC S.last S.ses.length c.ticks) ?_ ?_ ?_ ?_ hd (HZ.2.2.1.trans hf (by simp) (fun x hx => .inl hx)) (HZ.2.2.2.trans ho) rfl
    · unfold doN; rw [if_neg (by have := HK.out; omega), if_pos HK.out]
    · unfold doE; rw [if_neg (by have := HK.out; omega), if_neg (by have := HK.out; omega), if_pos HK.out]
    · unfold doG; rw [if_neg (by have := HK.out; omega)]
    · unfold doS; rw [if_neg (by have := HK.out; omega), if_neg (by have := HK.out; omega), if_pos HK.out]
  obtain ⟨en, hen⟩ : ∃ en, en = openC S.last S.ses.length c.ticks := ⟨_, rfl⟩
  rw [← hen] at GO HCA
  obtain ⟨nn, hnn⟩ : ∃ nn, nn = openR S.last S.ses.length c.ticks := ⟨_, rfl⟩
  rw [← hnn] at GO HCA
  clear hen hnn
  go_enter Tryz.func19, Tryz.ntmps19
  go_wp2
  rw [← HW.out, ← HG.out]
  go_quiet (fail)
  go_wp2
  have s1 : Frm [] w0 (w0.drewN (nq + 1)) := (Frm.refl _ _).drewN _
  go_region_law (first
    | (go_simp; go_at_call 52; (with_reducible refine (HCA.out _ s1).mono ?_); rintro e w2 ⟨rfl, hd2, hf2, ho2⟩))
  all_goals
    have HE := Lib.hid (GO.out _ _ s1 hd2 hf2 ho2)
    clear hd2 hf2 ho2
    go_wp2
    first
      | exact HE.out
      | (go_ret3; exact HE.out)
end Go.Proofs.YtomgiockelhfiaaGreat
/- Contract of the document's State.Do: Renew, Close. (Made by wip/mk-rd.py.) -/
namespace Go.Proofs.YtomgiockelhfiaaGreat
open Go.RowKit
set_option maxRecDepth 100000

set_option maxHeartbeats 8000000 in
/-- Renew. -/
theorem rdo_renew {w : World} {B q : Nat} {F : List Nat} {S : MS} (c : MC) (a : Option Addr) (cap : Nat) (h : Ds w B q F S) (hM : MOk S) (hc : MCOk c) (hF : ∀ x ∈ F, x < w.heap.size) (hk : c.kind = 4) :
    Calls Tryz.prog 19 #[.pointer (some ⟨q, 0, none⟩), cmdV c a cap] w (RdEnd w B q F S c) := by
  obtain ⟨w0, hw0⟩ : ∃ w0, w0 = w.alloc (.cells (cmdC c a cap) 51) := ⟨_, rfl⟩
  obtain ⟨g, hg⟩ : ∃ g, g = w.heap.size := ⟨_, rfl⟩
  obtain ⟨hW, hf0⟩ := cmd_at hw0 hg
  have hgq : g ≠ q := by have := h.plt; omega
  have h0 : Ds w0 B q F S := h.keep hf0 (by simp) (by simp)
  have hF0 : ∀ x ∈ F, x < w0.heap.size := fun x hx => Nat.lt_of_lt_of_le (hF x hx) hf0.size
  have H0 := Lib.hid h0
  have HF0 := Lib.hid hf0
  have HFF := Lib.hid hF0
  have HM := Lib.hid hM
  have HC := Lib.hid hc
  have HW := Lib.hid hw0
  have HG := Lib.hid hg
  have HWG := Lib.hid hW
  have HQL := Lib.hid h.plt
  obtain ⟨Q, hQ⟩ : ∃ Q, Q = RdEnd w B q F S c := ⟨_, rfl⟩
  rw [← hQ]
  have HQ := Lib.hid hQ
  have d0 : w0.cell? ⟨g, 0, none⟩ = some (.int .u8 (c.kind : Nat)) := hW.cell 0
  have d1 : w0.cell? ⟨g, 1, none⟩ = some (.string c.key) := hW.cell 1
  have d3 : w0.cell? ⟨g, 3, none⟩ = some (.int .u64 (c.want : Nat)) := hW.cell 3
  have d4 : w0.cell? ⟨g, 4, none⟩ = some (.int .u64 (c.ses : Nat)) := hW.cell 4
  have d5 : w0.cell? ⟨g, 5, none⟩ = some (.int .u64 (c.ticks : Nat)) := hW.cell 5
  have n0 := h0.n0
  rw [show cmdV c a cap = .agg #[.int .u8 (c.kind : Nat), .string c.key, .slice a c.val.length cap, .int .u64 (c.want : Nat), .int .u64 (c.ses : Nat), .int .u64 (c.ticks : Nat)] from rfl]
  rw [show cmdC c a cap = #[.int .u8 (c.kind : Nat), .string c.key, .slice a c.val.length cap, .int .u64 (c.want : Nat), .int .u64 (c.ses : Nat), .int .u64 (c.ticks : Nat)] from rfl] at HW
  have HK := Lib.hid hk
  have hnow : S.now < 18446744073709551616 := by have := hM.now; omega
  rw [hk] at d0 HW ⊢
  rw [show ((4 : Nat) : Int) = 4 from rfl] at d0 HW ⊢
  have KEEP := Lib.hid (fun (z : World) (hz : Frm [] w0 z) => (show Ds z B q F S ∧ (∀ x ∈ F, x < z.heap.size) ∧ Frm [] w z ∧ OthS q w z from ⟨h0.keep hz (by simp) (by simp), fun x hx => Nat.lt_of_lt_of_le (hF0 x hx) hz.size, hf0.trans hz (U := []) (by simp) (by simp), OthS.frm (hf0.trans hz (U := []) (by simp) (by simp)) h.plt⟩))
  clear h hM hc hF hk hW hf0 h0 hF0 hQ hw0 hg
  have HCA := Lib.hid (fun (z : World) (hz : Frm [] w0 z) => ds_renew c.ses S.now (KEEP.out z hz).1 (KEEP.out z hz).2.1 hnow)
  have GO : Hid (∀ z w1, Frm [] w0 z → Ds w1 B q F { S with ses := renewL S.ses c.ses S.now } → Frm [q] z w1 → OthS q z w1 → expS S c.ses = false → Q (.returned (.tuple #[.int .u64 0, .slice none 0 0, .int .i64 (renewC S.ses c.ses S.now : Nat)])) w1) := Lib.hid fun z w1 hz hd hf ho hx => by
    have HZ := KEEP.out z hz
    rw [HQ.out]
    refine RdEnd.mk (S' := { S with ses := renewL S.ses c.ses S.now }) (n := 0) (e := renewC S.ses c.ses S.now) ?_ ?_ ?_ ?_ hd (HZ.2.2.1.trans hf (by simp) (fun x hx => .inl hx)) (HZ.2.2.2.trans ho) rfl
    · unfold doN; rw [if_neg (by have := HK.out; omega), if_neg (by have := HK.out; omega), if_neg (by have := HK.out; omega)]
    · unfold doE; rw [if_neg (by have := HK.out; omega), if_neg (by have := HK.out; omega), if_neg (by have := HK.out; omega), if_pos HK.out, if_neg (by rw [hx]; simp)]
    · unfold doG; rw [if_neg (by have := HK.out; omega)]
    · unfold doS; rw [if_neg (by have := HK.out; omega), if_neg (by have := HK.out; omega), if_neg (by have := HK.out; omega), if_pos HK.out, if_neg (by rw [hx]; simp)]
  have BAD : Hid (∀ m, expS S c.ses = true → Q (.returned (.tuple #[.int .u64 0, .slice none 0 0, .int .i64 15])) (w0.drewN m)) := Lib.hid fun m hx => by
    have HZ := KEEP.out (w0.drewN m) ((Frm.refl _ _).drewN m)
    rw [HQ.out]
    refine RdEnd.mk (S' := S) (n := 0) (e := 15) ?_ ?_ ?_ ?_ HZ.1 (HZ.2.2.1.weak (by simp)) HZ.2.2.2 rfl
    · unfold doN; rw [if_neg (by have := HK.out; omega), if_neg (by have := HK.out; omega), if_neg (by have := HK.out; omega)]
    · unfold doE; rw [if_neg (by have := HK.out; omega), if_neg (by have := HK.out; omega), if_neg (by have := HK.out; omega), if_pos HK.out, if_pos hx]
    · unfold doG; rw [if_neg (by have := HK.out; omega)]
    · unfold doS; rw [if_neg (by have := HK.out; omega), if_neg (by have := HK.out; omega), if_neg (by have := HK.out; omega), if_pos HK.out, if_pos hx]
  obtain ⟨en, hen⟩ : ∃ en, en = renewC S.ses c.ses S.now := ⟨_, rfl⟩
  rw [← hen] at GO HCA
  clear hen
  by_cases hs0 : c.ses = 0
  · have e0 : ((c.ses : Int) != 0) = false := by rw [hs0]; rfl
    have HX : Hid (expS S c.ses = false) := Lib.hid (by rw [hs0]; rfl)
    clear hs0
    go_enter Tryz.func19, Tryz.ntmps19
    go_wp2
    rw [← HW.out, ← HG.out]
    go_quiet (fail)
    go_wp2
    have s1 : Frm [] w0 (w0.drewN (nq + 1)) := (Frm.refl _ _).drewN _
    go_region_law (first
      | (go_simp; go_at_call 53; (with_reducible refine (HCA.out _ s1).mono ?_); rintro e w2 ⟨rfl, hd2, hf2, ho2⟩))
    all_goals
      have HE := Lib.hid (GO.out _ _ s1 hd2 hf2 ho2 HX.out)
      clear hd2 hf2 ho2
      go_wp2
      first
        | exact HE.out
        | (go_ret3; exact HE.out)
  have e0 : ((c.ses : Int) != 0) = true := by simp; omega
  have hxe : expS S c.ses = !liveS S.ses c.ses S.now := by unfold expS expB; rw [decide_eq_true hs0]; rfl
  have HXE := Lib.hid hxe
  clear hs0 hxe
  have HLV := Lib.hid (fun (m : Nat) => ds_live c.ses S.now (H0.out.keep ((Frm.refl [] w0).drewN m) (by simp) (by simp)))
  cases hl : liveS S.ses c.ses S.now
  · rw [hl] at HLV HXE
    clear hl
    go_enter Tryz.func19, Tryz.ntmps19
    go_wp2
    rw [← HW.out, ← HG.out]
    go_quiet ((go_at_call 39; exact Calls.quiet_of_same ((HLV.out _).mono fun _ _ h => ⟨h.1, h.2.symm⟩)))
    go_wp2
    exact BAD.out _ (by rw [HXE.out]; rfl)
  · rw [hl] at HLV HXE
    clear hl
    go_enter Tryz.func19, Tryz.ntmps19
    go_wp2
    rw [← HW.out, ← HG.out]
    go_quiet ((go_at_call 39; exact Calls.quiet_of_same ((HLV.out _).mono fun _ _ h => ⟨h.1, h.2.symm⟩)))
    go_wp2
    have s1 : Frm [] w0 (w0.drewN (nq + 1)) := (Frm.refl _ _).drewN _
    go_region_law (first
      | (go_simp; go_at_call 53; (with_reducible refine (HCA.out _ s1).mono ?_); rintro e w2 ⟨rfl, hd2, hf2, ho2⟩))
    all_goals
      have HE := Lib.hid (GO.out _ _ s1 hd2 hf2 ho2 (by rw [HXE.out]; rfl))
      clear hd2 hf2 ho2
      go_wp2
      first
        | exact HE.out
        | (go_ret3; exact HE.out)
end Go.Proofs.YtomgiockelhfiaaGreat
/- Contract of the document's State.Do: Snap, no kind. (Made by wip/mk-rd.py.) -/
namespace Go.Proofs.YtomgiockelhfiaaGreat
open Go.RowKit
set_option maxRecDepth 100000

set_option maxHeartbeats 8000000 in
/-- Snap. -/
theorem rdo_snap {w : World} {B q : Nat} {F : List Nat} {S : MS} (c : MC) (a : Option Addr) (cap : Nat) (h : Ds w B q F S) (hM : MOk S) (hc : MCOk c) (hF : ∀ x ∈ F, x < w.heap.size) (hk : c.kind = 7) :
    Calls Tryz.prog 19 #[.pointer (some ⟨q, 0, none⟩), cmdV c a cap] w (RdEnd w B q F S c) := by
  obtain ⟨w0, hw0⟩ : ∃ w0, w0 = w.alloc (.cells (cmdC c a cap) 51) := ⟨_, rfl⟩
  obtain ⟨g, hg⟩ : ∃ g, g = w.heap.size := ⟨_, rfl⟩
  obtain ⟨hW, hf0⟩ := cmd_at hw0 hg
  have hgq : g ≠ q := by have := h.plt; omega
  have h0 : Ds w0 B q F S := h.keep hf0 (by simp) (by simp)
  have hF0 : ∀ x ∈ F, x < w0.heap.size := fun x hx => Nat.lt_of_lt_of_le (hF x hx) hf0.size
  have H0 := Lib.hid h0
  have HF0 := Lib.hid hf0
  have HFF := Lib.hid hF0
  have HM := Lib.hid hM
  have HC := Lib.hid hc
  have HW := Lib.hid hw0
  have HG := Lib.hid hg
  have HWG := Lib.hid hW
  have HQL := Lib.hid h.plt
  obtain ⟨Q, hQ⟩ : ∃ Q, Q = RdEnd w B q F S c := ⟨_, rfl⟩
  rw [← hQ]
  have HQ := Lib.hid hQ
  have d0 : w0.cell? ⟨g, 0, none⟩ = some (.int .u8 (c.kind : Nat)) := hW.cell 0
  have d1 : w0.cell? ⟨g, 1, none⟩ = some (.string c.key) := hW.cell 1
  have d3 : w0.cell? ⟨g, 3, none⟩ = some (.int .u64 (c.want : Nat)) := hW.cell 3
  have d4 : w0.cell? ⟨g, 4, none⟩ = some (.int .u64 (c.ses : Nat)) := hW.cell 4
  have d5 : w0.cell? ⟨g, 5, none⟩ = some (.int .u64 (c.ticks : Nat)) := hW.cell 5
  have n0 := h0.n0
  rw [show cmdV c a cap = .agg #[.int .u8 (c.kind : Nat), .string c.key, .slice a c.val.length cap, .int .u64 (c.want : Nat), .int .u64 (c.ses : Nat), .int .u64 (c.ticks : Nat)] from rfl]
  rw [show cmdC c a cap = #[.int .u8 (c.kind : Nat), .string c.key, .slice a c.val.length cap, .int .u64 (c.want : Nat), .int .u64 (c.ses : Nat), .int .u64 (c.ticks : Nat)] from rfl] at HW
  have HK := Lib.hid hk
  have hnow : S.now < 18446744073709551616 := by have := hM.now; omega
  rw [hk] at d0 HW ⊢
  rw [show ((7 : Nat) : Int) = 7 from rfl] at d0 HW ⊢
  have KEEP := Lib.hid (fun (z : World) (hz : Frm [] w0 z) => (show Ds z B q F S ∧ (∀ x ∈ F, x < z.heap.size) ∧ Frm [] w z ∧ OthS q w z from ⟨h0.keep hz (by simp) (by simp), fun x hx => Nat.lt_of_lt_of_le (hF0 x hx) hz.size, hf0.trans hz (U := []) (by simp) (by simp), OthS.frm (hf0.trans hz (U := []) (by simp) (by simp)) h.plt⟩))
  clear h hM hc hF hk hW hf0 h0 hF0 hQ hw0 hg
  have GO : Hid (∀ m, Q (.returned (.tuple #[.int .u64 0, .slice none 0 0, .int .i64 0])) (w0.drewN m)) := Lib.hid fun m => by
    have HZ := KEEP.out (w0.drewN m) ((Frm.refl _ _).drewN m)
    rw [HQ.out]
    refine RdEnd.mk (S' := S) (n := 0) (e := 0) ?_ ?_ ?_ ?_ HZ.1 (HZ.2.2.1.weak (by simp)) HZ.2.2.2 rfl
    · unfold doN; rw [if_neg (by have := HK.out; omega), if_neg (by have := HK.out; omega), if_neg (by have := HK.out; omega)]
    · unfold doE; rw [if_neg (by have := HK.out; omega), if_neg (by have := HK.out; omega), if_neg (by have := HK.out; omega), if_neg (by have := HK.out; omega), if_neg (by have := HK.out; omega), if_neg (by have := HK.out; omega), if_pos HK.out]
    · unfold doG; rw [if_neg (by have := HK.out; omega)]
    · unfold doS; rw [if_neg (by have := HK.out; omega), if_neg (by have := HK.out; omega), if_neg (by have := HK.out; omega), if_neg (by have := HK.out; omega), if_neg (by have := HK.out; omega), if_neg (by have := HK.out; omega)]
  go_enter Tryz.func19, Tryz.ntmps19
  go_wp2
  rw [← HW.out, ← HG.out]
  go_quiet (fail)
  go_wp2
  exact GO.out _
end Go.Proofs.YtomgiockelhfiaaGreat
/- Contract of the document's State.Do: Close. (Made by wip/mk-rd.py.) -/
namespace Go.Proofs.YtomgiockelhfiaaGreat
open Go.RowKit
set_option maxRecDepth 100000

set_option maxHeartbeats 8000000 in
/-- Close. -/
theorem rdo_close {w : World} {B q : Nat} {F : List Nat} {S : MS} (c : MC) (a : Option Addr) (cap : Nat) (h : Ds w B q F S) (hM : MOk S) (hc : MCOk c) (hF : ∀ x ∈ F, x < w.heap.size) (hk : c.kind = 5) :
    Calls Tryz.prog 19 #[.pointer (some ⟨q, 0, none⟩), cmdV c a cap] w (RdEnd w B q F S c) := by
  obtain ⟨w0, hw0⟩ : ∃ w0, w0 = w.alloc (.cells (cmdC c a cap) 51) := ⟨_, rfl⟩
  obtain ⟨g, hg⟩ : ∃ g, g = w.heap.size := ⟨_, rfl⟩
  obtain ⟨hW, hf0⟩ := cmd_at hw0 hg
  have hgq : g ≠ q := by have := h.plt; omega
  have h0 : Ds w0 B q F S := h.keep hf0 (by simp) (by simp)
  have hF0 : ∀ x ∈ F, x < w0.heap.size := fun x hx => Nat.lt_of_lt_of_le (hF x hx) hf0.size
  have H0 := Lib.hid h0
  have HF0 := Lib.hid hf0
  have HFF := Lib.hid hF0
  have HM := Lib.hid hM
  have HC := Lib.hid hc
  have HW := Lib.hid hw0
  have HG := Lib.hid hg
  have HWG := Lib.hid hW
  have HQL := Lib.hid h.plt
  obtain ⟨Q, hQ⟩ : ∃ Q, Q = RdEnd w B q F S c := ⟨_, rfl⟩
  rw [← hQ]
  have HQ := Lib.hid hQ
  have d0 : w0.cell? ⟨g, 0, none⟩ = some (.int .u8 (c.kind : Nat)) := hW.cell 0
  have d1 : w0.cell? ⟨g, 1, none⟩ = some (.string c.key) := hW.cell 1
  have d3 : w0.cell? ⟨g, 3, none⟩ = some (.int .u64 (c.want : Nat)) := hW.cell 3
  have d4 : w0.cell? ⟨g, 4, none⟩ = some (.int .u64 (c.ses : Nat)) := hW.cell 4
  have d5 : w0.cell? ⟨g, 5, none⟩ = some (.int .u64 (c.ticks : Nat)) := hW.cell 5
  have n0 := h0.n0
  rw [show cmdV c a cap = .agg #[.int .u8 (c.kind : Nat), .string c.key, .slice a c.val.length cap, .int .u64 (c.want : Nat), .int .u64 (c.ses : Nat), .int .u64 (c.ticks : Nat)] from rfl]
  rw [show cmdC c a cap = #[.int .u8 (c.kind : Nat), .string c.key, .slice a c.val.length cap, .int .u64 (c.want : Nat), .int .u64 (c.ses : Nat), .int .u64 (c.ticks : Nat)] from rfl] at HW
  have HK := Lib.hid hk
  have hnow : S.now < 18446744073709551616 := by have := hM.now; omega
  rw [hk] at d0 HW ⊢
  rw [show ((5 : Nat) : Int) = 5 from rfl] at d0 HW ⊢
  have KEEP := Lib.hid (fun (z : World) (hz : Frm [] w0 z) => (show Ds z B q F S ∧ (∀ x ∈ F, x < z.heap.size) ∧ Frm [] w z ∧ OthS q w z from ⟨h0.keep hz (by simp) (by simp), fun x hx => Nat.lt_of_lt_of_le (hF0 x hx) hz.size, hf0.trans hz (U := []) (by simp) (by simp), OthS.frm (hf0.trans hz (U := []) (by simp) (by simp)) h.plt⟩))
  clear h hM hc hF hk hW hf0 h0 hF0 hQ hw0 hg
  have HCA := Lib.hid (fun (z : World) (hz : Frm [] w0 z) => ds_close c.ses (KEEP.out z hz).1 (KEEP.out z hz).2.1)
  have GO : Hid (∀ z w1 M, Frm [] w0 z → Ds w1 B q F { S with ses := closeL S.ses c.ses, nodes := M } → Frm [q] z w1 → OthS q z w1 → M = (if closeC S.ses c.ses = 0 then keepD c.ses S.nodes else S.nodes) → Q (.returned (.tuple #[.int .u64 0, .slice none 0 0, .int .i64 (closeC S.ses c.ses : Nat)])) w1) := Lib.hid fun z w1 M hz hd hf ho hx => by
    have HZ := KEEP.out z hz
    rw [HQ.out]
    refine RdEnd.mk (S' := { S with ses := closeL S.ses c.ses, nodes := M }) (n := 0) (e := closeC S.ses c.ses) ?_ ?_ ?_ ?_ hd (HZ.2.2.1.trans hf (by simp) (fun x hx => .inl hx)) (HZ.2.2.2.trans ho) rfl
    · unfold doN; rw [if_neg (by have := HK.out; omega), if_neg (by have := HK.out; omega), if_neg (by have := HK.out; omega)]
    · unfold doE; rw [if_neg (by have := HK.out; omega), if_neg (by have := HK.out; omega), if_neg (by have := HK.out; omega), if_neg (by have := HK.out; omega), if_pos HK.out]
    · unfold doG; rw [if_neg (by have := HK.out; omega)]
    · rw [hx]; unfold doS; rw [if_neg (by have := HK.out; omega), if_neg (by have := HK.out; omega), if_neg (by have := HK.out; omega), if_neg (by have := HK.out; omega), if_pos HK.out]
  obtain ⟨en, hen⟩ : ∃ en, en = closeC S.ses c.ses := ⟨_, rfl⟩
  rw [← hen] at GO HCA
  clear hen
  go_enter Tryz.func19, Tryz.ntmps19
  go_wp2
  rw [← HW.out, ← HG.out]
  go_quiet (fail)
  go_wp2
  have s1 : Frm [] w0 (w0.drewN (nq + 1)) := (Frm.refl _ _).drewN _
  go_region_law (first
    | (go_simp; go_at_call 54; (with_reducible refine (HCA.out _ s1).mono ?_); rintro e w2 ⟨rfl, hd2, hf2, ho2⟩))
  all_goals
    have HD2 := Lib.hid hd2
    have HF2 := Lib.hid hf2
    have HO2 := Lib.hid ho2
    have r4 : w2.cell? ⟨g, 4, none⟩ = some (.int .u64 (c.ses : Nat)) := ((s1.whole HWG.out (by simp)) |> fun h => hf2.whole h (by simpa using hgq)).cell 4
    clear hd2 hf2 ho2
    by_cases h00 : en = 0
    · have HGO := Lib.hid (fun w3 hd3 hf3 ho3 => GO.out _ w3 (keepD c.ses S.nodes) s1 hd3 hf3 ho3 (by rw [if_pos h00]))
      have HDR := Lib.hid (fun (m : Nat) => ds_drop c.ses (HD2.out.keep ((Frm.refl [] w2).drewN m) (by simp) (by simp)) (fun x hx => Nat.lt_of_lt_of_le (HFF.out x hx) (Nat.le_trans s1.size HF2.out.size)))
      have HFQ := Lib.hid (fun (m : Nat) => (HF2.out.drewN m))
      have HOQ := Lib.hid (fun (m : Nat) => HO2.out.trans (OthS.frm ((Frm.refl [] w2).drewN m) HD2.out.plt))
      subst h00
      go_wp2
      go_region_law (first
        | (go_simp; go_at_call 55; (refine (HDR.out 1).mono ?_); rintro e w3 ⟨rfl, hd3, hf3, ho3⟩))
      all_goals
        have HE := Lib.hid (HGO.out w3 hd3 ((HFQ.out 1).trans hf3 (fun x hx => hx) (fun x hx => .inl hx)) ((HOQ.out 1).trans ho3))
        clear hd3 hf3 ho3
        go_wp2
        first
          | exact HE.out
          | (go_ret3; exact HE.out)
    · have e1 : ((en : Int) == 0) = false := by rw [beq_eq_false_iff_ne]; omega
      have HE := Lib.hid (GO.out _ w2 S.nodes s1 HD2.out HF2.out HO2.out (by rw [if_neg h00]))
      go_wp2
      first
        | exact HE.out
        | (go_ret3; exact HE.out)
end Go.Proofs.YtomgiockelhfiaaGreat
/- Contract of the document's State.Do: Tick. (Made by wip/mk-rd.py.) -/
namespace Go.Proofs.YtomgiockelhfiaaGreat
open Go.RowKit
set_option maxRecDepth 100000
/-- So many of the sessions' keys have gone. -/
def RtiRel (w : World) (B q : Nat) (F : List Nat) (S : MS) (G : List Nat) (s13 : Value) (wr : World) : Prop :=
  ∃ k, k ≤ G.length ∧ s13 = .int .i64 (k : Nat) ∧ Hid (Ds wr B q F { S with nodes := dropAll (G.take k) S.nodes }) ∧ Hid (Frm [q] w wr) ∧ Hid (OthS q w wr)

set_option maxHeartbeats 8000000 in
/-- Tick. -/
theorem rdo_tick {w : World} {B q : Nat} {F : List Nat} {S : MS} (c : MC) (a : Option Addr) (cap : Nat) (h : Ds w B q F S) (hM : MOk S) (hc : MCOk c) (hF : ∀ x ∈ F, x < w.heap.size) (hk : c.kind = 6) :
    Calls Tryz.prog 19 #[.pointer (some ⟨q, 0, none⟩), cmdV c a cap] w (RdEnd w B q F S c) := by
  obtain ⟨w0, hw0⟩ : ∃ w0, w0 = w.alloc (.cells (cmdC c a cap) 51) := ⟨_, rfl⟩
  obtain ⟨g, hg⟩ : ∃ g, g = w.heap.size := ⟨_, rfl⟩
  obtain ⟨hW, hf0⟩ := cmd_at hw0 hg
  have hgq : g ≠ q := by have := h.plt; omega
  have h0 : Ds w0 B q F S := h.keep hf0 (by simp) (by simp)
  have hF0 : ∀ x ∈ F, x < w0.heap.size := fun x hx => Nat.lt_of_lt_of_le (hF x hx) hf0.size
  have H0 := Lib.hid h0
  have HF0 := Lib.hid hf0
  have HFF := Lib.hid hF0
  have HM := Lib.hid hM
  have HC := Lib.hid hc
  have HW := Lib.hid hw0
  have HG := Lib.hid hg
  have HWG := Lib.hid hW
  have HQL := Lib.hid h.plt
  obtain ⟨Q, hQ⟩ : ∃ Q, Q = RdEnd w B q F S c := ⟨_, rfl⟩
  rw [← hQ]
  have HQ := Lib.hid hQ
  have d0 : w0.cell? ⟨g, 0, none⟩ = some (.int .u8 (c.kind : Nat)) := hW.cell 0
  have d1 : w0.cell? ⟨g, 1, none⟩ = some (.string c.key) := hW.cell 1
  have d3 : w0.cell? ⟨g, 3, none⟩ = some (.int .u64 (c.want : Nat)) := hW.cell 3
  have d4 : w0.cell? ⟨g, 4, none⟩ = some (.int .u64 (c.ses : Nat)) := hW.cell 4
  have d5 : w0.cell? ⟨g, 5, none⟩ = some (.int .u64 (c.ticks : Nat)) := hW.cell 5
  have n0 := h0.n0
  rw [show cmdV c a cap = .agg #[.int .u8 (c.kind : Nat), .string c.key, .slice a c.val.length cap, .int .u64 (c.want : Nat), .int .u64 (c.ses : Nat), .int .u64 (c.ticks : Nat)] from rfl]
  rw [show cmdC c a cap = #[.int .u8 (c.kind : Nat), .string c.key, .slice a c.val.length cap, .int .u64 (c.want : Nat), .int .u64 (c.ses : Nat), .int .u64 (c.ticks : Nat)] from rfl] at HW
  have HK := Lib.hid hk
  have hnow : S.now < 18446744073709551616 := by have := hM.now; omega
  rw [hk] at d0 HW ⊢
  rw [show ((6 : Nat) : Int) = 6 from rfl] at d0 HW ⊢
  have KEEP := Lib.hid (fun (z : World) (hz : Frm [] w0 z) => (show Ds z B q F S ∧ (∀ x ∈ F, x < z.heap.size) ∧ Frm [] w z ∧ OthS q w z from ⟨h0.keep hz (by simp) (by simp), fun x hx => Nat.lt_of_lt_of_le (hF0 x hx) hz.size, hf0.trans hz (U := []) (by simp) (by simp), OthS.frm (hf0.trans hz (U := []) (by simp) (by simp)) h.plt⟩))
  clear h hM hc hF hk hW hf0 h0 hF0 hQ hw0 hg
  obtain ⟨T, hT⟩ : ∃ T, T = tickT S.now c.ticks := ⟨_, rfl⟩
  obtain ⟨r, hr⟩ : ∃ r, r = 1099511627776 - S.now := ⟨_, rfl⟩
  have hnw := HM.out.now
  have a1 : (1099511627776 - (S.now : Int)) % 18446744073709551616 = (r : Int) := by omega
  have a2 : IntKind.u64.wrap (1099511627776 - (S.now : Int)) = (r : Int) := by rw [← a1]; simp [IntKind.wrap, IntKind.bits, IntKind.signed]
  obtain ⟨G, hGG⟩ : ∃ G, G = goneS T S.ses := ⟨_, rfl⟩
  have HGG := Lib.hid hGG
  have HLEN : Hid (G.length ≤ 16) := Lib.hid (by rw [hGG]; unfold goneS; rw [List.length_map]; exact Nat.le_trans (List.length_filter_le _ _) HM.out.right.1)
  have f0 := H0.out.free 0
  have HM0Q := Lib.hid H0.out.plt
  have hTl : T ≤ 1099511627776 := by rw [hT]; unfold tickT; omega
  clear hGG
  by_cases hov : r < c.ticks
  · have hT2 : T = 1099511627776 := by rw [hT]; unfold tickT; omega
    have HT := Lib.hid hT
    have HT2 := Lib.hid hT2
    clear hT hT2 hr a1
    go_enter Tryz.func19, Tryz.ntmps19
    go_wp2
    rw [← HW.out, ← HG.out]
    go_quiet (fail)
    obtain ⟨n1, hn1⟩ : ∃ n1, n1 = nq := ⟨_, rfl⟩
    rw [← hn1]
    clear hn1
    go_wp2
    go_quiet (fail)
    go_wp2
    have hs1 : Frm [] w0 (w0.drewN (n1 + nq)) := (Frm.refl _ _).drewN _
    have hm1 := (KEEP.out _ hs1).1.turnN 1099511627776
    rw [show ((1099511627776 : Nat) : Int) = 1099511627776 from rfl, ← HT2.out] at hm1
    obtain ⟨w1, hw1⟩ : ∃ w1, w1 = (w0.drewN (n1 + nq)).setCell ⟨q, 0, none⟩ (.int .u64 1099511627776) := ⟨_, rfl⟩
    rw [← hw1] at hm1
    clear hov f0 n0 d0 d1 d3 d4 d5
    have HM1 := Lib.hid hm1.1
    have HF1 := Lib.hid (hs1.trans hm1.2.1 (U := [q]) (by simp) (fun x hx => .inl hx))
    have HO1 := Lib.hid ((OthS.frm hs1 HM0Q.out).trans hm1.2.2)
    rw [← hw1]
    have k0 := hm1.1.n0
    simp only at k0
    have HWW := Lib.hid hw1
    clear hm1 hs1 hw1
    have HEX := Lib.hid (fun (m : Nat) => ds_expire T (HM1.out.keep ((Frm.refl [] w1).drewN m) (by simp) (by simp)) (fun x hx => Nat.lt_of_lt_of_le (HFF.out x hx) HF1.out.size))
    rw [← HGG.out] at HEX
    go_wp2
    go_region_law (first
      | (go_simp; go_at_call 56; (refine (HEX.out 1).mono ?_); rintro e w2 ⟨ga, gc, rfl, hga, hgv, hd2, hf2, ho2⟩))
    all_goals
      have HR0 : Hid (RtiRel w2 B q F { S with now := T, ses := leftS T S.ses } G (.int .i64 (0 : Nat)) w2) := Lib.hid ⟨0, Nat.zero_le _, rfl, Lib.hid hd2, Lib.hid (Frm.refl _ _), Lib.hid (OthS.refl _ _)⟩
      have HF2 := Lib.hid (HF1.out.trans (show Frm [q] w1 w2 from hf2.undrew) (U := [q]) (fun x hx => hx) (fun x hx => .inl hx))
      have HO2 := Lib.hid (HO1.out.trans (show OthS q w1 w2 from ho2))
      have HGB : Hid (∀ x, ga = some x → w1.heap.size ≤ x.block) := Lib.hid fun x hx => hga x hx
      have HQ1 : Hid (q < w1.heap.size) := Lib.hid HM1.out.plt
      have HVK : Hid (∀ z, Frm [q] w2 z → ValsAt z ga (uvs G)) := Lib.hid fun z hz => hgv.keep hz (fun hne x hx hm => by
        have h1 := HGB.out x hx
        have h2 := HQ1.out
        simp at hm
        omega)
      have HGV := Lib.hid hga
      clear hd2 hf2 ho2 hga hgv k0
      obtain ⟨gn, hgn⟩ : ∃ gn, gn = G.length := ⟨_, rfl⟩
      have HGN := Lib.hid hgn
      have hgn16 := HLEN.out
      rw [← hgn] at hgn16 ⊢
      clear hgn
      go_wp2
      go_loopw [13] (fun s13 wr => RtiRel w2 B q F { S with now := T, ses := leftS T S.ses } G s13 wr) (fun s13 _ => gn - (intOf s13).toNat)
      case atStart => exact HR0.out
      case round =>
        clear HR0
        obtain ⟨k, hk, rfl, HD, HF, HO⟩ := hrel
        by_cases hlt : k < gn
        · have hkG : k < G.length := by have := HGN.out; omega
          obtain ⟨x, hx⟩ : ∃ x, x = G.getD k 0 := ⟨_, rfl⟩
          have hxu : (uvs G)[k]? = some (.int .u64 (x : Nat)) := by rw [hx]; simp [uvs, hkG]
          have htk : G.take (k + 1) = G.take k ++ [x] := by rw [hx]; exact (List.take_succ_eq_append_getElem hkG).trans (by simp [hkG])
          rcases HVK.out _ HF.out with h0 | ⟨b, off, rfl, hc⟩
          · rw [h0] at hxu; simp at hxu
          have p0 := hc k _ hxu
          have HDR := Lib.hid (fun (m : Nat) => ds_drop x (HD.out.keep ((Frm.refl [] wr).drewN m) (by simp) (by simp)) (fun y hy => Nat.lt_of_lt_of_le (HFF.out y hy) (Nat.le_trans HF2.out.size HF.out.size)))
          have HTK := Lib.hid htk
          clear hxu htk hc hx
          go_wp2
          go_region_law (first
            | (go_simp; go_at_call 55; (refine (HDR.out 1).mono ?_); rintro e w3 ⟨rfl, hd3, hf3, ho3⟩))
          all_goals
            have HREL : Hid (RtiRel w2 B q F { S with now := T, ses := leftS T S.ses } G (.int .i64 ((k + 1 : Nat) : Nat)) w3) := Lib.hid ⟨k + 1, hkG, rfl, Lib.hid (by rw [HTK.out, dropAll_snoc]; exact hd3), Lib.hid (HF.out.trans (show Frm [q] wr w3 from hf3.undrew) (U := [q]) (fun x hx => hx) (fun x hx => .inl hx)), Lib.hid (HO.out.trans (show OthS q wr w3 from ho3))⟩
            clear hd3 hf3 ho3
            go_wp2
            go_roundw
            case rel => exact HREL.out
            case measure => simp [intOf]; omega
        · obtain rfl : k = gn := by have := HGN.out; omega
          have et : G.take k = G := by rw [HGN.out]; exact List.take_length
          rw [et] at HD
          have k0 := HD.out.n0
          simp only at k0
          have HE : Hid (Q (.returned (.tuple #[.int .u64 (T : Nat), .slice ga k gc, .int .i64 0])) wr) := Lib.hid (by
            have eN : doN S c = T := by unfold doN; rw [if_neg (by have := HK.out; omega), if_neg (by have := HK.out; omega), if_pos HK.out]; exact HT.out.symm
            have eG : doG S c = G := by unfold doG; rw [if_pos HK.out, ← HT.out]; exact HGG.out.symm
            have eE : doE S c = 0 := by unfold doE; rw [if_neg (by have := HK.out; omega), if_neg (by have := HK.out; omega), if_neg (by have := HK.out; omega), if_neg (by have := HK.out; omega), if_neg (by have := HK.out; omega), if_pos HK.out]
            have eS : doS S c = { S with now := T, ses := leftS T S.ses, nodes := dropAll G S.nodes } := by unfold doS; rw [if_neg (by have := HK.out; omega), if_neg (by have := HK.out; omega), if_neg (by have := HK.out; omega), if_neg (by have := HK.out; omega), if_neg (by have := HK.out; omega), if_pos HK.out, ← HT.out, ← HGG.out]
            rw [HQ.out]
            unfold RdEnd
            rw [eN, eG, eE, eS, ← HGN.out]
            exact ⟨ga, gc, rfl, HVK.out _ HF.out, fun x hx => Nat.le_trans (Nat.le_trans HF0.out.size HF1.out.size) (HGB.out x hx), HD.out, (HF0.out.trans HF2.out (U := [q]) (by simp) (fun x hx => .inl hx)).trans HF.out (fun x hx => hx) (fun x hx => .inl hx), ((OthS.frm HF0.out HQL.out).trans HO2.out).trans HO.out⟩)
          go_wp2
          exact HE.out

  · have hT2 : T = S.now + c.ticks := by rw [hT]; unfold tickT; omega
    have a5 : ((S.now : Int) + (c.ticks : Int)) % 18446744073709551616 = (T : Int) := by omega
    have a6 : IntKind.u64.wrap ((S.now : Int) + (c.ticks : Int)) = (T : Int) := by rw [← a5]; simp [IntKind.wrap, IntKind.bits, IntKind.signed]
    have HT := Lib.hid hT
    clear hT hT2 hr a1 a5
    go_enter Tryz.func19, Tryz.ntmps19
    go_wp2
    rw [← HW.out, ← HG.out]
    go_quiet (fail)
    obtain ⟨n1, hn1⟩ : ∃ n1, n1 = nq := ⟨_, rfl⟩
    rw [← hn1]
    clear hn1
    go_wp2
    go_quiet (fail)
    obtain ⟨n2, hn2⟩ : ∃ n2, n2 = nq := ⟨_, rfl⟩
    rw [← hn2]
    clear hn2
    go_wp2
    go_region_law (fail)
    all_goals
      have hs1 : Frm [] w0 (w0.drewN (n1 + n2 + 1)) := (Frm.refl _ _).drewN _
      have hm1 := (KEEP.out _ hs1).1.turnN T
      obtain ⟨w1, hw1⟩ : ∃ w1, w1 = (w0.drewN (n1 + n2 + 1)).setCell ⟨q, 0, none⟩ (.int .u64 (T : Nat)) := ⟨_, rfl⟩
      rw [← hw1] at hm1
      clear hov f0 n0 d0 d1 d3 d4 d5 a2 a6
      have HM1 := Lib.hid hm1.1
      have HF1 := Lib.hid (hs1.trans hm1.2.1 (U := [q]) (by simp) (fun x hx => .inl hx))
      have HO1 := Lib.hid ((OthS.frm hs1 HM0Q.out).trans hm1.2.2)
      rw [← hw1]
      have k0 := hm1.1.n0
      simp only at k0
      have HWW := Lib.hid hw1
      clear hm1 hs1 hw1
      have HEX := Lib.hid (fun (m : Nat) => ds_expire T (HM1.out.keep ((Frm.refl [] w1).drewN m) (by simp) (by simp)) (fun x hx => Nat.lt_of_lt_of_le (HFF.out x hx) HF1.out.size))
      rw [← HGG.out] at HEX
      go_wp2
      go_region_law (first
        | (go_simp; go_at_call 56; (refine (HEX.out 1).mono ?_); rintro e w2 ⟨ga, gc, rfl, hga, hgv, hd2, hf2, ho2⟩))
      all_goals
        have HR0 : Hid (RtiRel w2 B q F { S with now := T, ses := leftS T S.ses } G (.int .i64 (0 : Nat)) w2) := Lib.hid ⟨0, Nat.zero_le _, rfl, Lib.hid hd2, Lib.hid (Frm.refl _ _), Lib.hid (OthS.refl _ _)⟩
        have HF2 := Lib.hid (HF1.out.trans (show Frm [q] w1 w2 from hf2.undrew) (U := [q]) (fun x hx => hx) (fun x hx => .inl hx))
        have HO2 := Lib.hid (HO1.out.trans (show OthS q w1 w2 from ho2))
        have HGB : Hid (∀ x, ga = some x → w1.heap.size ≤ x.block) := Lib.hid fun x hx => hga x hx
        have HQ1 : Hid (q < w1.heap.size) := Lib.hid HM1.out.plt
        have HVK : Hid (∀ z, Frm [q] w2 z → ValsAt z ga (uvs G)) := Lib.hid fun z hz => hgv.keep hz (fun hne x hx hm => by
          have h1 := HGB.out x hx
          have h2 := HQ1.out
          simp at hm
          omega)
        have HGV := Lib.hid hga
        clear hd2 hf2 ho2 hga hgv k0
        obtain ⟨gn, hgn⟩ : ∃ gn, gn = G.length := ⟨_, rfl⟩
        have HGN := Lib.hid hgn
        have hgn16 := HLEN.out
        rw [← hgn] at hgn16 ⊢
        clear hgn
        go_wp2
        go_loopw [13] (fun s13 wr => RtiRel w2 B q F { S with now := T, ses := leftS T S.ses } G s13 wr) (fun s13 _ => gn - (intOf s13).toNat)
        case atStart => exact HR0.out
        case round =>
          clear HR0
          obtain ⟨k, hk, rfl, HD, HF, HO⟩ := hrel
          by_cases hlt : k < gn
          · have hkG : k < G.length := by have := HGN.out; omega
            obtain ⟨x, hx⟩ : ∃ x, x = G.getD k 0 := ⟨_, rfl⟩
            have hxu : (uvs G)[k]? = some (.int .u64 (x : Nat)) := by rw [hx]; simp [uvs, hkG]
            have htk : G.take (k + 1) = G.take k ++ [x] := by rw [hx]; exact (List.take_succ_eq_append_getElem hkG).trans (by simp [hkG])
            rcases HVK.out _ HF.out with h0 | ⟨b, off, rfl, hc⟩
            · rw [h0] at hxu; simp at hxu
            have p0 := hc k _ hxu
            have HDR := Lib.hid (fun (m : Nat) => ds_drop x (HD.out.keep ((Frm.refl [] wr).drewN m) (by simp) (by simp)) (fun y hy => Nat.lt_of_lt_of_le (HFF.out y hy) (Nat.le_trans HF2.out.size HF.out.size)))
            have HTK := Lib.hid htk
            clear hxu htk hc hx
            go_wp2
            go_region_law (first
              | (go_simp; go_at_call 55; (refine (HDR.out 1).mono ?_); rintro e w3 ⟨rfl, hd3, hf3, ho3⟩))
            all_goals
              have HREL : Hid (RtiRel w2 B q F { S with now := T, ses := leftS T S.ses } G (.int .i64 ((k + 1 : Nat) : Nat)) w3) := Lib.hid ⟨k + 1, hkG, rfl, Lib.hid (by rw [HTK.out, dropAll_snoc]; exact hd3), Lib.hid (HF.out.trans (show Frm [q] wr w3 from hf3.undrew) (U := [q]) (fun x hx => hx) (fun x hx => .inl hx)), Lib.hid (HO.out.trans (show OthS q wr w3 from ho3))⟩
              clear hd3 hf3 ho3
              go_wp2
              go_roundw
              case rel => exact HREL.out
              case measure => simp [intOf]; omega
          · obtain rfl : k = gn := by have := HGN.out; omega
            have et : G.take k = G := by rw [HGN.out]; exact List.take_length
            rw [et] at HD
            have k0 := HD.out.n0
            simp only at k0
            have HE : Hid (Q (.returned (.tuple #[.int .u64 (T : Nat), .slice ga k gc, .int .i64 0])) wr) := Lib.hid (by
              have eN : doN S c = T := by unfold doN; rw [if_neg (by have := HK.out; omega), if_neg (by have := HK.out; omega), if_pos HK.out]; exact HT.out.symm
              have eG : doG S c = G := by unfold doG; rw [if_pos HK.out, ← HT.out]; exact HGG.out.symm
              have eE : doE S c = 0 := by unfold doE; rw [if_neg (by have := HK.out; omega), if_neg (by have := HK.out; omega), if_neg (by have := HK.out; omega), if_neg (by have := HK.out; omega), if_neg (by have := HK.out; omega), if_pos HK.out]
              have eS : doS S c = { S with now := T, ses := leftS T S.ses, nodes := dropAll G S.nodes } := by unfold doS; rw [if_neg (by have := HK.out; omega), if_neg (by have := HK.out; omega), if_neg (by have := HK.out; omega), if_neg (by have := HK.out; omega), if_neg (by have := HK.out; omega), if_pos HK.out, ← HT.out, ← HGG.out]
              rw [HQ.out]
              unfold RdEnd
              rw [eN, eG, eE, eS, ← HGN.out]
              exact ⟨ga, gc, rfl, HVK.out _ HF.out, fun x hx => Nat.le_trans (Nat.le_trans HF0.out.size HF1.out.size) (HGB.out x hx), HD.out, (HF0.out.trans HF2.out (U := [q]) (by simp) (fun x hx => .inl hx)).trans HF.out (fun x hx => hx) (fun x hx => .inl hx), ((OthS.frm HF0.out HQL.out).trans HO2.out).trans HO.out⟩)
            go_wp2
            exact HE.out

end Go.Proofs.YtomgiockelhfiaaGreat
/- Contract of the document's State.Do: no kind; all kinds. (Made by wip/mk-rd.py.) -/
namespace Go.Proofs.YtomgiockelhfiaaGreat
open Go.RowKit
set_option maxRecDepth 100000

set_option maxHeartbeats 8000000 in
/-- No kind. -/
theorem rdo_none {w : World} {B q : Nat} {F : List Nat} {S : MS} (c : MC) (a : Option Addr) (cap : Nat) (h : Ds w B q F S) (hM : MOk S) (hc : MCOk c) (hF : ∀ x ∈ F, x < w.heap.size) (hk : c.kind = 0 ∨ 7 < c.kind) :
    Calls Tryz.prog 19 #[.pointer (some ⟨q, 0, none⟩), cmdV c a cap] w (RdEnd w B q F S c) := by
  obtain ⟨w0, hw0⟩ : ∃ w0, w0 = w.alloc (.cells (cmdC c a cap) 51) := ⟨_, rfl⟩
  obtain ⟨g, hg⟩ : ∃ g, g = w.heap.size := ⟨_, rfl⟩
  obtain ⟨hW, hf0⟩ := cmd_at hw0 hg
  have hgq : g ≠ q := by have := h.plt; omega
  have h0 : Ds w0 B q F S := h.keep hf0 (by simp) (by simp)
  have hF0 : ∀ x ∈ F, x < w0.heap.size := fun x hx => Nat.lt_of_lt_of_le (hF x hx) hf0.size
  have H0 := Lib.hid h0
  have HF0 := Lib.hid hf0
  have HFF := Lib.hid hF0
  have HM := Lib.hid hM
  have HC := Lib.hid hc
  have HW := Lib.hid hw0
  have HG := Lib.hid hg
  have HWG := Lib.hid hW
  have HQL := Lib.hid h.plt
  obtain ⟨Q, hQ⟩ : ∃ Q, Q = RdEnd w B q F S c := ⟨_, rfl⟩
  rw [← hQ]
  have HQ := Lib.hid hQ
  have d0 : w0.cell? ⟨g, 0, none⟩ = some (.int .u8 (c.kind : Nat)) := hW.cell 0
  have d1 : w0.cell? ⟨g, 1, none⟩ = some (.string c.key) := hW.cell 1
  have d3 : w0.cell? ⟨g, 3, none⟩ = some (.int .u64 (c.want : Nat)) := hW.cell 3
  have d4 : w0.cell? ⟨g, 4, none⟩ = some (.int .u64 (c.ses : Nat)) := hW.cell 4
  have d5 : w0.cell? ⟨g, 5, none⟩ = some (.int .u64 (c.ticks : Nat)) := hW.cell 5
  have n0 := h0.n0
  rw [show cmdV c a cap = .agg #[.int .u8 (c.kind : Nat), .string c.key, .slice a c.val.length cap, .int .u64 (c.want : Nat), .int .u64 (c.ses : Nat), .int .u64 (c.ticks : Nat)] from rfl]
  rw [show cmdC c a cap = #[.int .u8 (c.kind : Nat), .string c.key, .slice a c.val.length cap, .int .u64 (c.want : Nat), .int .u64 (c.ses : Nat), .int .u64 (c.ticks : Nat)] from rfl] at HW
  have HK := Lib.hid hk
  have hnow : S.now < 18446744073709551616 := by have := hM.now; omega
  have KEEP := Lib.hid (fun (z : World) (hz : Frm [] w0 z) => (show Ds z B q F S ∧ (∀ x ∈ F, x < z.heap.size) ∧ Frm [] w z ∧ OthS q w z from ⟨h0.keep hz (by simp) (by simp), fun x hx => Nat.lt_of_lt_of_le (hF0 x hx) hz.size, hf0.trans hz (U := []) (by simp) (by simp), OthS.frm (hf0.trans hz (U := []) (by simp) (by simp)) h.plt⟩))
  clear h hM hc hF hk hW hf0 h0 hF0 hQ hw0 hg
  have b1 : ((c.kind : Int) == 1) = false := by rw [beq_eq_false_iff_ne]; have := HK.out; omega
  have b2 : ((c.kind : Int) == 2) = false := by rw [beq_eq_false_iff_ne]; have := HK.out; omega
  have b3 : ((c.kind : Int) == 3) = false := by rw [beq_eq_false_iff_ne]; have := HK.out; omega
  have b4 : ((c.kind : Int) == 4) = false := by rw [beq_eq_false_iff_ne]; have := HK.out; omega
  have b5 : ((c.kind : Int) == 5) = false := by rw [beq_eq_false_iff_ne]; have := HK.out; omega
  have b6 : ((c.kind : Int) == 6) = false := by rw [beq_eq_false_iff_ne]; have := HK.out; omega
  have b7 : ((c.kind : Int) == 7) = false := by rw [beq_eq_false_iff_ne]; have := HK.out; omega
  have GO : Hid (∀ m, Q (.returned (.tuple #[.int .u64 0, .slice none 0 0, .int .i64 16])) (w0.drewN m)) := Lib.hid fun m => by
    have HZ := KEEP.out (w0.drewN m) ((Frm.refl _ _).drewN m)
    rw [HQ.out]
    refine RdEnd.mk (S' := S) (n := 0) (e := 16) ?_ ?_ ?_ ?_ HZ.1 (HZ.2.2.1.weak (by simp)) HZ.2.2.2 rfl
    · unfold doN; rw [if_neg (by have := HK.out; omega), if_neg (by have := HK.out; omega), if_neg (by have := HK.out; omega)]
    · unfold doE; rw [if_neg (by have := HK.out; omega), if_neg (by have := HK.out; omega), if_neg (by have := HK.out; omega), if_neg (by have := HK.out; omega), if_neg (by have := HK.out; omega), if_neg (by have := HK.out; omega), if_neg (by have := HK.out; omega)]
    · unfold doG; rw [if_neg (by have := HK.out; omega)]
    · unfold doS; rw [if_neg (by have := HK.out; omega), if_neg (by have := HK.out; omega), if_neg (by have := HK.out; omega), if_neg (by have := HK.out; omega), if_neg (by have := HK.out; omega), if_neg (by have := HK.out; omega)]
  go_enter Tryz.func19, Tryz.ntmps19
  go_wp2
  rw [← HW.out, ← HG.out]
  go_quiet (fail)
  go_wp2
  exact GO.out _

/-- The document's State does what the words say. -/
theorem rdo_any {w : World} {B q : Nat} {F : List Nat} {S : MS} (c : MC) (a : Option Addr) (cap : Nat) (h : Ds w B q F S) (hM : MOk S) (hc : MCOk c) (hF : ∀ x ∈ F, x < w.heap.size) (hb : Bytes w a c.val) (hnil : a = none → cap = 0) :
    Calls Tryz.prog 19 #[.pointer (some ⟨q, 0, none⟩), cmdV c a cap] w (RdEnd w B q F S c) := by
  by_cases k1 : c.kind = 1
  · exact rdo_put c a cap h hM hc hF hb hnil k1
  by_cases k2 : c.kind = 2
  · exact rdo_del c a cap h hM hc hF k2
  by_cases k3 : c.kind = 3
  · exact rdo_open c a cap h hM hc hF k3
  by_cases k4 : c.kind = 4
  · exact rdo_renew c a cap h hM hc hF k4
  by_cases k5 : c.kind = 5
  · exact rdo_close c a cap h hM hc hF k5
  by_cases k6 : c.kind = 6
  · exact rdo_tick c a cap h hM hc hF k6
  by_cases k7 : c.kind = 7
  · exact rdo_snap c a cap h hM hc hF k7
  exact rdo_none c a cap h hM hc hF (by omega)
end Go.Proofs.YtomgiockelhfiaaGreat
