/- A state taken as the parser says; contract of takeState. -/
import Derived.Test.YtbdgldlblkflpaaGreatZMtTakeN
import Derived.Test.YtbdgldlblkflpaaGreatZPkFail
import Derived.Test.YtbdgldlblkflpaaGreatMF
namespace Go.Proofs.YtbdgldlblkflpaaGreat
open Go.RowKit
set_option maxRecDepth 100000
def TkS (F : List Nat) (w : World) (rb cb db : Nat) (l : List Nat) (e : Ending) (w' : World) : Prop :=
  (∃ S m tp bp, pS l = some (S, m) ∧ pOk S ∧ e = .returned (.agg #[.int .u64 (S.now : Nat), .pointer (some ⟨tp, 0, none⟩), .pointer (some ⟨bp, 0, none⟩)]) ∧ Kd w' w.heap.size F tp bp S.nodes S.last S.ses ∧ Rdr w' rb cb db m ∧ Frm [rb] w w') ∨
  ((∀ S m, pS l = some (S, m) → ¬ pOk S) ∧ ∃ c : Nat, c ≠ 0 ∧ Thrown w rb cb c e w')
theorem pS_of {l l1 l2 l3 l4 : List Nat} {x1 x2 : Nat} {X : List Sn} {M : List Nd} (h1 : pU 8 l = some (x1, l1)) (h2 : pU 8 l1 = some (x2, l2)) (h3 : pCX l2 = some (X, l3)) (h4 : pCN l3 = some (M, l4)) : pS l = some (⟨x1, M, x2, X⟩, l4) := by
  unfold pS
  rw [h1]; simp only [Option.bind_some]; rw [h2]; simp only [Option.bind_some]; rw [h3]; simp only [Option.bind_some]; rw [h4]; rfl
theorem pS_none {l : List Nat} (h : pS l = none) : ∀ S m, pS l = some (S, m) → ¬ pOk S := fun S m h' => by rw [h] at h'; cases h'

set_option maxHeartbeats 16000000 in
theorem takeState_any {w : World} {rb cb db : Nat} {l : List Nat} (F : List Nat) (h : Rdr w rb cb db l) (hdb : db < w.heap.size) (hF : ∀ x ∈ F, x < w.heap.size) :
    Calls Tryz.prog 99 #[.pointer (some ⟨rb, 0, none⟩)] w (TkS F w rb cb db l) := by
  obtain ⟨w0, hw0⟩ : ∃ w0, w0 = w.alloc (.cells #[.int .u64 0, .pointer none, .pointer none] 93) := ⟨_, rfl⟩
  obtain ⟨g, hg⟩ : ∃ g, g = w.heap.size := ⟨_, rfl⟩
  have hW := Whole.made w 93 #[.int .u64 0, .pointer none, .pointer none]
  rw [← hw0, ← hg] at hW
  have hf0 : Frm [] w w0 := by rw [hw0]; exact (Frm.refl _ _).alloc _
  have hlt := h.lt
  have HGL := Lib.hid hW.lt
  have HF0 := Lib.hid hf0
  have HW0 := Lib.hid hw0
  have HG := Lib.hid hg
  have HDB : Hid (∀ x ∈ rb :: cb :: db :: F, x < w.heap.size) := Lib.hid (by intro x hx; simp at hx; rcases hx with rfl | rfl | rfl | hx; exact hlt.1; exact hlt.2; exact hdb; exact hF x hx)
  have HLT : Hid (∀ z, Frm [rb] w0 z → db < z.heap.size) := Lib.hid fun z hz => by have := hz.size; have := hf0.size; omega
  have HN1 := Lib.hid (tk_u64 (h.keep hf0 (by simp) (by simp) (by simp)) (show db < w0.heap.size by have := hf0.size; omega))
  have HCE := Lib.hid (fun (z : World) (hz : Frm [rb] w0 z) => hz.whole hW (by simp; omega))
  obtain ⟨Q, hQ⟩ : ∃ Q, Q = TkS F w rb cb db l := ⟨_, rfl⟩
  rw [← hQ]
  have ER : Hid (∀ (z : World) (e : Ending) (w' : World) (c : Nat), c ≠ 0 → Frm [rb] w0 z → (∀ S m, pS l = some (S, m) → ¬ pOk S) → Thrown z rb cb c e w' → Q e w') := Lib.hid fun z e w' c hc hz hp ht => by rw [hQ]; exact .inr ⟨hp, c, hc, ht.early (hf0.trans hz (U := [rb]) (by simp) (fun x hx => .inl hx))⟩
  have HQ := Lib.hid hQ
  clear h hdb hW hf0 hlt hw0 hg hF hQ
  go_enter Tryz.func99, Tryz.ntmps99
  go_wp2_with fail
  rw [← HW0.out]
  (with_reducible refine HN1.out.mono ?_)
  rintro e w1 (⟨x1, l1, hp1, hx1, rfl, hr1, hf1⟩ | ⟨hp1, ht⟩)
  case inr =>
    have hb := ER.out _ _ _ 4 (by decide) (Frm.refl _ _) (pS_none (by unfold pS; rw [hp1]; rfl)) ht
    obtain ⟨rfl, _⟩ := ht
    exact ⟨rfl, hb⟩
  have HF1 := Lib.hid hf1
  have HP1 := Lib.hid hp1
  have HN2 := Lib.hid (tk_u64 hr1 (HLT.out _ hf1))
  clear hr1 hf1 hp1 HN1
  go_wp2_with fail
  (with_reducible refine HN2.out.mono ?_)
  rintro e w2 (⟨x2, l2, hp2, hx2, rfl, hr2, hf2⟩ | ⟨hp2, ht⟩)
  case inr =>
    have hb := ER.out _ _ _ 4 (by decide) HF1.out (pS_none (by unfold pS; rw [HP1.out]; simp only [Option.bind_some]; rw [hp2]; rfl)) ht
    obtain ⟨rfl, _⟩ := ht
    exact ⟨rfl, hb⟩
  have HF2 := Lib.hid (HF1.out.trans hf2 (U := [rb]) (fun x hx => hx) (fun x hx => .inl hx))
  have HP2 := Lib.hid hp2
  have HN3 := Lib.hid (takeSessions_any hr2 (HLT.out _ HF2.out))
  clear hr2 hf2 hp2 HN2
  go_wp2_with fail
  (with_reducible refine HN3.out.mono ?_)
  rintro e w3 (⟨X, l3, a3, c3, hp3, hX3, rfl, ho3, hr3, hf3⟩ | ⟨hp3, ht⟩)
  case inr =>
    have hb := ER.out _ _ _ 4 (by decide) HF2.out (pS_none (by unfold pS; rw [HP1.out]; simp only [Option.bind_some]; rw [HP2.out]; simp only [Option.bind_some]; rw [hp3]; rfl)) ht
    obtain ⟨rfl, _⟩ := ht
    exact ⟨rfl, hb⟩
  have HF3 := Lib.hid (HF2.out.trans hf3 (U := [rb]) (fun x hx => hx) (fun x hx => .inl hx))
  have HP3 := Lib.hid hp3
  have HR3 := Lib.hid hr3
  have HN4 := Lib.hid (bknew_any (n := X.length) (cap := c3) (last := x2) (ho3.sl.keep (S := []) (F' := []) (Frm.refl _ _) (by simp) (by simp)) rfl (by omega) (by simpa using hx2))
  clear hr3 hf3 hp3 HN3
  go_wp2_with fail
  (with_reducible refine HN4.out.mono ?_)
  rintro e w4 (⟨hR, bp, Y, rfl, hbk, hf4⟩ | ⟨hR, rfl, hf4⟩)
  · have HF4 := Lib.hid (HF3.out.trans hf4 (U := [rb]) (fun x hx => hx) (by simp))
    have HBK := Lib.hid hbk
    have HBL := Lib.hid (show w.heap.size ≤ bp ∧ bp < w4.heap.size from ⟨by have h1 := hbk.hp; have h2 := HF3.out.size; have h3 := HF0.out.size; omega, hbk.book.lt⟩)
    have HBL3 := Lib.hid (show g < bp from by have h1 := hbk.hp; have h2 := HF3.out.size; have h3 := HGL.out; omega)
    have HBP : Hid (∀ x ∈ bp :: g :: F, x < w4.heap.size) := Lib.hid (by intro x hx; rcases List.mem_cons.1 hx with rfl | hx; exact HBL.out.2; rcases List.mem_cons.1 hx with rfl | hx; have h2 := HF4.out.size; have h1 := HGL.out; omega; have h1 := HDB.out x (by simp [hx]); have h2 := HF4.out.size; have h3 := HF0.out.size; omega)
    have HN5 := Lib.hid (takeNodes_any (bp :: g :: F) (HR3.out.keep hf4 (by simp) (by simp) (by simp)) (HLT.out _ HF4.out) HBP.out)
    clear hf4 hbk
    go_wp2_with fail
    (with_reducible refine HN5.out.mono ?_)
    rintro e w5 (⟨M, l5, a5, c5, hp5, hM5, rfl, ho5, hr5, hf5⟩ | ⟨hp5, ht⟩)
    case inr =>
      have hb := ER.out _ _ _ 4 (by decide) HF4.out (pS_none (by unfold pS; rw [HP1.out]; simp only [Option.bind_some]; rw [HP2.out]; simp only [Option.bind_some]; rw [HP3.out]; simp only [Option.bind_some]; rw [hp5]; rfl)) ht
      obtain ⟨rfl, _⟩ := ht
      exact ⟨rfl, hb⟩
    have HPS := Lib.hid (pS_of HP1.out HP2.out HP3.out hp5)
    have HF5 := Lib.hid (HF4.out.trans hf5 (U := [rb]) (fun x hx => hx) (fun x hx => .inl hx))
    have HN6 := Lib.hid (load_any a5 M.length c5 M (bp :: g :: F) w5 (ho5.nl.keep (S := []) (Frm.refl _ _) (by simp) (fun x hx => .inl (by simp at hx; simp [hx]))) rfl (by omega) (fun x hx => Nat.lt_of_lt_of_le (HBP.out x hx) hf5.size))
    have HR5 := Lib.hid hr5
    have HF45 := Lib.hid hf5
    clear hr5 hf5 hp5 ho5 HN5
    go_wp2_with fail
    (with_reducible refine HN6.out.mono ?_)
    rintro e w6 (⟨hL, rfl, hf6⟩ | ⟨hL, tp, a6, c6, L6, qs6, rfl, hpt, hn6, hf6⟩)
    · have HF6 := Lib.hid (HF5.out.trans hf6 (U := [rb]) (fun x hx => hx) (by simp))
      have HR6 := Lib.hid (HR5.out.keep hf6 (by simp) (by simp) (by simp))
      clear HN6
      clear hf6
      by_cases hnow : 1099511627776 < x1
      · have d1 : decide ((1099511627776 : Int) < (x1 : Int)) = true := decide_eq_true (by omega)
        go_wp2_with fail
        refine (fail1_any 23 HR6.out (by decide)).mono ?_
        rintro e w7 ht
        have hb := ER.out _ _ _ 23 (by decide) HF6.out (fun S m hS => by rw [HPS.out] at hS; cases hS; exact fun hk => hL hk.2.2) ht
        obtain ⟨rfl, _⟩ := ht
        exact ⟨rfl, hb⟩
      · have d1 : decide ((1099511627776 : Int) < (x1 : Int)) = false := decide_eq_false (by omega)
        go_wp2_with fail
        refine (fail1_any 23 HR6.out (by decide)).mono ?_
        rintro e w7 ht
        have hb := ER.out _ _ _ 23 (by decide) HF6.out (fun S m hS => by rw [HPS.out] at hS; cases hS; exact fun hk => hL hk.2.2) ht
        obtain ⟨rfl, _⟩ := ht
        exact ⟨rfl, hb⟩
    · have HF6 := Lib.hid (HF5.out.trans hf6 (U := [rb]) (fun x hx => hx) (by simp))
      have HR6 := Lib.hid (HR5.out.keep hf6 (by simp) (by simp) (by simp))
      clear HN6
      by_cases hnow : 1099511627776 < x1
      · have d1 : decide ((1099511627776 : Int) < (x1 : Int)) = true := decide_eq_true (by omega)
        clear hf6 hpt
        go_wp2_with fail
        refine (fail1_any 23 HR6.out (by decide)).mono ?_
        rintro e w7 ht
        have hb := ER.out _ _ _ 23 (by decide) HF6.out (fun S m hS => by rw [HPS.out] at hS; cases hS; exact fun hk => absurd hk.1 (Nat.not_le.2 hnow)) ht
        obtain ⟨rfl, _⟩ := ht
        exact ⟨rfl, hb⟩
      · have d1 : decide ((1099511627776 : Int) < (x1 : Int)) = false := decide_eq_false (by omega)
        obtain ⟨wz, hz⟩ : ∃ wz, wz = ((w6.setCell ⟨g, 0, none⟩ (.int .u64 (x1 : Nat))).setCell ⟨g, 1, none⟩ (.pointer (some ⟨tp, 0, none⟩))).setCell ⟨g, 2, none⟩ (.pointer (some ⟨bp, 0, none⟩)) := ⟨_, rfl⟩
        have hW6 := HCE.out w6 HF6.out
        have g0 := hW6.cell 0
        have g1 := hW6.cell 1
        have g2 := hW6.cell 2
        have k0 := hW6.free 0
        have k1 := hW6.free 1
        have k2 := hW6.free 2
        simp at g0 g1 g2 k0 k1 k2
        have hWz : Whole wz g 93 #[.int .u64 (x1 : Nat), .pointer (some ⟨tp, 0, none⟩), .pointer (some ⟨bp, 0, none⟩)] := by rw [hz]; exact ((hW6.put 0 _).put 1 _).put 2 _
        have hfz : Frm [g] w6 wz := by rw [hz]; exact (((Frm.refl _ _).setCell (.inl (by simp)) _).setCell (.inl (by simp)) _).setCell (.inl (by simp)) _
        have y0 := hWz.cell 0
        have y1 := hWz.cell 1
        have y2 := hWz.cell 2
        simp at y0 y1 y2
        have HEND : Hid (Q (.returned (.agg #[.int .u64 (x1 : Nat), .pointer (some ⟨tp, 0, none⟩), .pointer (some ⟨bp, 0, none⟩)])) wz) := Lib.hid (by
          have e0 := HF0.out.size
          have e1 := HF4.out.size
          have e2 := HF45.out.size
          have e3 := HG.out
          have e4 := HBL.out
          have e5 := hpt.hp
          have e6 := hpt.tree.lt
          have e7 := HGL.out
          have hgF : g ∉ F := fun hm => by have := HDB.out g (by simp [hm]); omega
          have hgR : g ≠ rb ∧ g ≠ cb ∧ g ≠ db := ⟨fun hm => by have := HDB.out g (by simp [hm]); omega, fun hm => by have := HDB.out g (by simp [hm]); omega, fun hm => by have := HDB.out g (by simp [hm]); omega⟩
          have hF56 : Frm [rb] w4 w6 := HF45.out.trans hf6 (fun x hx => hx) (by simp)
          have hrbp : bp ∉ [rb] := fun hm => by have := HDB.out rb (by simp); simp at hm; omega
          have hKd : Kd w6 w.heap.size (g :: F) tp bp (nds M) x2 X := ⟨⟨a6, c6, L6, qs6, { hpt with hp := by omega }, hn6⟩, ⟨Y, { HBK.out.keep hF56 hrbp with hp := e4.1 }⟩, fun hm => by
            rcases List.mem_cons.1 hm with h1 | h1
            · have := HBL3.out; omega
            · have := HDB.out bp (by simp [h1]); omega⟩
          rw [HQ.out]
          refine .inl ⟨⟨x1, nds M, x2, X⟩, l5, tp, bp, HPS.out, ⟨by show x1 ≤ _; omega, hR, hL⟩, rfl, ?_, HR6.out.keep hfz (by simp; omega) (by simp; omega) (by simp; omega), ((HF0.out.trans HF6.out (U := [rb]) (by simp) (fun x hx => .inl hx)).trans hfz (fun x hx => hx) (fun x hx => .inr (by simp at hx; omega)))⟩
          exact hKd.keep hfz (fun x hx => .inl (by simp at hx; simp [hx])) (fun x hx => .inl (by simp [hx])))
        rw [← HG.out]
        clear hf6 hpt hWz hfz hW6
        have HZ := Lib.hid hz
        clear hz
        go_wp2
        rw [← HZ.out]
        refine bodyPost_ret (v := .agg #[.int .u64 (x1 : Nat), .pointer (some ⟨tp, 0, none⟩), .pointer (some ⟨bp, 0, none⟩)]) ?_ rfl ?_
        · simp [results, Tryz.results99, go_sem, y0, y1, y2]
        · exact HEND.out
  · have HF4 := Lib.hid (HF3.out.trans hf4 (U := [rb]) (fun x hx => hx) (by simp))
    have HBP : Hid (∀ x ∈ F, x < w4.heap.size) := Lib.hid (fun x hx => by have h1 := HDB.out x (by simp [hx]); have h2 := HF4.out.size; have h3 := HF0.out.size; omega)
    have HN5 := Lib.hid (takeNodes_any F (HR3.out.keep hf4 (by simp) (by simp) (by simp)) (HLT.out _ HF4.out) HBP.out)
    clear hf4 
    go_wp2_with fail
    (with_reducible refine HN5.out.mono ?_)
    rintro e w5 (⟨M, l5, a5, c5, hp5, hM5, rfl, ho5, hr5, hf5⟩ | ⟨hp5, ht⟩)
    case inr =>
      have hb := ER.out _ _ _ 4 (by decide) HF4.out (pS_none (by unfold pS; rw [HP1.out]; simp only [Option.bind_some]; rw [HP2.out]; simp only [Option.bind_some]; rw [HP3.out]; simp only [Option.bind_some]; rw [hp5]; rfl)) ht
      obtain ⟨rfl, _⟩ := ht
      exact ⟨rfl, hb⟩
    have HPS := Lib.hid (pS_of HP1.out HP2.out HP3.out hp5)
    have HF5 := Lib.hid (HF4.out.trans hf5 (U := [rb]) (fun x hx => hx) (fun x hx => .inl hx))
    have HN6 := Lib.hid (load_any a5 M.length c5 M F w5 (ho5.nl.keep (S := []) (Frm.refl _ _) (by simp) (fun x hx => .inl (by simp [hx]))) rfl (by omega) (fun x hx => Nat.lt_of_lt_of_le (HBP.out x hx) hf5.size))
    have HR5 := Lib.hid hr5
    have HF45 := Lib.hid hf5
    clear hr5 hf5 hp5 ho5 HN5
    go_wp2_with fail
    (with_reducible refine HN6.out.mono ?_)
    rintro e w6 (⟨hL, rfl, hf6⟩ | ⟨hL, tp, a6, c6, L6, qs6, rfl, hpt, hn6, hf6⟩)
    · have HF6 := Lib.hid (HF5.out.trans hf6 (U := [rb]) (fun x hx => hx) (by simp))
      have HR6 := Lib.hid (HR5.out.keep hf6 (by simp) (by simp) (by simp))
      clear HN6
      clear hf6
      by_cases hnow : 1099511627776 < x1
      · have d1 : decide ((1099511627776 : Int) < (x1 : Int)) = true := decide_eq_true (by omega)
        go_wp2_with fail
        refine (fail1_any 23 HR6.out (by decide)).mono ?_
        rintro e w7 ht
        have hb := ER.out _ _ _ 23 (by decide) HF6.out (fun S m hS => by rw [HPS.out] at hS; cases hS; exact fun hk => hR hk.2.1) ht
        obtain ⟨rfl, _⟩ := ht
        exact ⟨rfl, hb⟩
      · have d1 : decide ((1099511627776 : Int) < (x1 : Int)) = false := decide_eq_false (by omega)
        go_wp2_with fail
        refine (fail1_any 23 HR6.out (by decide)).mono ?_
        rintro e w7 ht
        have hb := ER.out _ _ _ 23 (by decide) HF6.out (fun S m hS => by rw [HPS.out] at hS; cases hS; exact fun hk => hR hk.2.1) ht
        obtain ⟨rfl, _⟩ := ht
        exact ⟨rfl, hb⟩
    · have HF6 := Lib.hid (HF5.out.trans hf6 (U := [rb]) (fun x hx => hx) (by simp))
      have HR6 := Lib.hid (HR5.out.keep hf6 (by simp) (by simp) (by simp))
      clear HN6
      clear hf6 hpt
      by_cases hnow : 1099511627776 < x1
      · have d1 : decide ((1099511627776 : Int) < (x1 : Int)) = true := decide_eq_true (by omega)
        go_wp2_with fail
        refine (fail1_any 23 HR6.out (by decide)).mono ?_
        rintro e w7 ht
        have hb := ER.out _ _ _ 23 (by decide) HF6.out (fun S m hS => by rw [HPS.out] at hS; cases hS; exact fun hk => hR hk.2.1) ht
        obtain ⟨rfl, _⟩ := ht
        exact ⟨rfl, hb⟩
      · have d1 : decide ((1099511627776 : Int) < (x1 : Int)) = false := decide_eq_false (by omega)
        go_wp2_with fail
        refine (fail1_any 23 HR6.out (by decide)).mono ?_
        rintro e w7 ht
        have hb := ER.out _ _ _ 23 (by decide) HF6.out (fun S m hS => by rw [HPS.out] at hS; cases hS; exact fun hk => hR hk.2.1) ht
        obtain ⟨rfl, _⟩ := ht
        exact ⟨rfl, hb⟩
end Go.Proofs.YtbdgldlblkflpaaGreat
