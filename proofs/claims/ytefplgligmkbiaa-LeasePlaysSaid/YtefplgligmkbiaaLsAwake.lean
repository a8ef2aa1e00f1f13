/- Contract of Awake (the fixed fact of layer 7): it answers true and writes nothing that was there. -/
import Derived.Test.YtefplgligmkbiaaBkOpen
import Derived.Test.YtefplgligmkbiaaBkNew
import Derived.Test.YtefplgligmkbiaaBkRenew
import Derived.Test.YtefplgligmkbiaaBkExpire
namespace Go.Proofs.Ytefplgligmkbiaa
open Go.RowKit

theorem rightNil (last : Nat) : RightS last [] := ⟨by simp, fun i hi => absurd hi (Nat.not_lt_zero _)⟩
/-- New of no sessions. -/
theorem new_nil (w : World) (last : Nat) (hl : last < 18446744073709551616) : Calls Try.prog 9 #[.int .u64 (last : Nat), .slice none 0 0] w fun e w' => ∃ p Y, e = .returned (.tuple #[.pointer (some ⟨p, 0, none⟩), .bool true]) ∧ Bk w' w.heap.size p 63 last [] Y ∧ Frm [] w w' := by
  refine (new_any (SL.nil w [] none) (L := []) (n := 0) rfl (by omega) hl).mono ?_
  rintro e w' (⟨_, p, Y, h⟩ | ⟨h, _⟩)
  · exact ⟨p, Y, h⟩
  · exact absurd (rightNil last) h
theorem BkTo.frm {w w1 w2 : World} {B p last last' : Nat} {X' : List Sn} (h : BkTo w1 w2 B p last' X') (hf : Frm [] w w1) (hp : w.heap.size ≤ p) (_ : last = last) : Frm [] w w2 := hf.trans h.2 (U := []) (by simp) (fun x hx => .inr (by simp at hx; subst hx; exact hp))

set_option maxRecDepth 100000 in
set_option maxHeartbeats 2000000 in
theorem awake7_any (w : World) : Calls Try.prog 8 #[] w fun e w' => e = .returned (.bool true) ∧ Frm [] w w' := by
  have HN := Lib.hid (new_nil w 0 (by omega))
  go_enter Try.func8, Try.ntmps8
  go_wp2_with fail
  refine HN.out.mono ?_
  rintro e w1 ⟨p, Y1, rfl, hb1, hf1⟩
  have HP := Lib.hid hb1.hp
  have HO := Lib.hid (open_any 5 10 hb1 (by omega))
  have HF1 := Lib.hid hf1
  clear hb1 hf1 HN
  go_wp2_with fail
  refine HO.out.mono ?_
  rintro e w2 ⟨rfl, hb2⟩
  have hf2 := hb2.frm HF1.out HP.out (last := 0) rfl
  obtain ⟨⟨Y2, hb2⟩, _⟩ := hb2
  have hb2' : Bk w2 w.heap.size p 63 1 [⟨1, 15, 10⟩] Y2 := hb2
  rw [show openR 0 ([] : List Sn).length 10 = 1 from rfl, show openC 0 ([] : List Sn).length 10 = 0 from rfl]
  have HR := Lib.hid (renew_any 1 14 hb2' (by omega))
  have HF2 := Lib.hid hf2
  clear hb2 hb2' hf2 HO HF1
  go_wp2_with fail
  refine HR.out.mono ?_
  rintro e w3 ⟨rfl, hb3⟩
  have hf3 := hb3.frm HF2.out HP.out (last := 0) rfl
  obtain ⟨⟨Y3, hb3⟩, _⟩ := hb3
  have hb3' : Bk w3 w.heap.size p 63 1 [⟨1, 24, 10⟩] Y3 := hb3
  rw [show renewC [(⟨1, 15, 10⟩ : Sn)] 1 14 = 0 from rfl]
  have HE := Lib.hid (expire_any 15 hb3')
  have HF3 := Lib.hid hf3
  clear hb3 hb3' hf3 HR HF2
  go_wp2_with fail
  refine HE.out.mono ?_
  rintro e w4 ⟨ga, gc, rfl, hgb, hgv, hb4⟩
  have hf4 := hb4.frm HF3.out HP.out (last := 0) rfl
  obtain ⟨⟨Y4, hb4⟩, _⟩ := hb4
  have hb4' : Bk w4 w.heap.size p 63 1 [⟨1, 24, 10⟩] Y4 := hb4
  rw [show (goneS 15 [(⟨1, 24, 10⟩ : Sn)]).length = 0 from rfl]
  have HE2 := Lib.hid (expire_any 24 hb4')
  have HF4 := Lib.hid hf4
  clear hb4 hb4' hf4 HE HF3 hgb hgv
  go_wp2_with fail
  refine HE2.out.mono ?_
  rintro e w5 ⟨gb, gd, rfl, hgb, hgv, hb5⟩
  have hf5 := hb5.frm HF4.out HP.out (last := 0) rfl
  rw [show (goneS 24 [(⟨1, 24, 10⟩ : Sn)]).length = 1 from rfl]
  obtain ⟨bb, off, rfl, c0⟩ := vals_at hgv (i := 0) (by show 0 < (goneS 24 [(⟨1, 24, 10⟩ : Sn)]).length; rw [show (goneS 24 [(⟨1, 24, 10⟩ : Sn)]).length = 1 from rfl]; omega)
  rw [show (goneS 24 [(⟨1, 24, 10⟩ : Sn)]).getD 0 0 = 1 from rfl] at c0
  have HF5 := Lib.hid hf5
  simp at c0
  clear hf5 hb5 hgb hgv HE2 HF4
  go_wp2
  go_ret
  exact ⟨rfl, HF5.out⟩
end Go.Proofs.Ytefplgligmkbiaa
