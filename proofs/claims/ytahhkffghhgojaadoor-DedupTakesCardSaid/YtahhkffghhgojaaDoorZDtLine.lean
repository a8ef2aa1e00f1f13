/- (For a door seat.) Contract of the program's take: one line. -/
import Derived.Test.YtahhkffghhgojaaDoorZDqRd
import Derived.Test.YtahhkffghhgojaaDoorZDdCl
namespace Go.Proofs.YtahhkffghhgojaaDoor
open Go.RowKit
set_option maxRecDepth 100000

theorem thn_inl {α β : Type} {x : (α × List Nat) ⊕ Nat} {f : α → List Nat → (β × List Nat) ⊕ Nat} {a : α} {l : List Nat} (h : x = .inl (a, l)) : thn x f = f a l := by rw [h]; rfl
theorem thn_inr {α β : Type} {x : (α × List Nat) ⊕ Nat} {f : α → List Nat → (β × List Nat) ⊕ Nat} {c : Nat} (h : x = .inr c) : thn x f = .inr c := by rw [h]; rfl
theorem pN8_lt {l l' : List Nat} {n : Nat} (h : pN 8 l = .inl (n, l')) (h8 : ∀ c ∈ l, c < 256) : n < 18446744073709551616 := by
  have h1 := (pN_left h).2
  rw [h1]
  have h2 := val_lt (l.take 8) (fun c hc => h8 c (List.mem_of_mem_take hc))
  have h3 : (l.take 8).length ≤ 8 := List.length_take_le _ _
  have h4 : 256 ^ (l.take 8).length ≤ 256 ^ 8 := Nat.pow_le_pow_right (by decide) h3
  have h5 : (256 : Nat) ^ 8 = 18446744073709551616 := by decide
  omega
set_option maxHeartbeats 8000000 in
theorem dline_any {V : List Nat → Bool} (hV : VOk V) {w : World} {rb cb db : Nat} {l : List Nat} (h : Rdr w rb cb db l) (hT : Tabs w) (hB : 2 ≤ rb) (hdb : db < w.heap.size) (hfit : l.length ≤ 100000) :
    Calls Tryd.prog 35 #[.pointer (some ⟨rb, 0, none⟩)] w (DqE w rb cb db (pLn V l) Ln.val) := by
  have hlt := h.lt
  obtain ⟨g, hg⟩ : ∃ g, g = w.heap.size := ⟨_, rfl⟩
  obtain ⟨w1, hw1⟩ : ∃ w1, w1 = w.alloc (.cells #[.string ⟨#[]⟩, .int .u64 0, .int .u64 0, .int .u64 0, .int .u64 0] 56) := ⟨_, rfl⟩
  have F1 : Hid (Frm [] w w1) := Lib.hid (by rw [hw1]; exact (Frm.refl _ _).alloc _)
  have B1 : Hid (Whole w1 g 56 #[.string ⟨#[]⟩, .int .u64 0, .int .u64 0, .int .u64 0, .int .u64 0]) := Lib.hid (by rw [hw1, hg]; exact Whole.made _ _ _)
  have NE : Hid (rb ≠ g ∧ cb ≠ g ∧ db ≠ g) := Lib.hid (by omega)
  have HBB := Lib.hid hB
  have DB1 : Hid (db < w1.heap.size) := Lib.hid (Nat.lt_of_lt_of_le hdb F1.out.size)
  have C1 := Lib.hid (dq_text hV (h.keep F1.out (by simp) (by simp) (by simp)) (hT.keep F1.out (by simp)) hB DB1.out hfit)
  have V0 : Hid (∀ (z : World) (s : ByteArray) (d a e : Nat) (tm : Array Value), tm.getD 2 undef = .pointer (some ⟨g, 0, none⟩) → Whole z g 56 #[.string s, .int .u64 (d : Nat), .int .u64 (d : Nat), .int .u64 (a : Nat), .int .u64 (e : Nat)] → (results Tryd.f35 tm).run Tryd.prog z = .ok (.agg #[.string s, .int .u64 (d : Nat), .int .u64 (d : Nat), .int .u64 (a : Nat), .int .u64 (e : Nat)]) z) := Lib.hid (fun z s d a e tm h6 hw => by
    have c0 := hw.cell 0
    have c1 := hw.cell 1
    have c2 := hw.cell 2
    have c3 := hw.cell 3
    have c4 := hw.cell 4
    simp at c0 c1 c2 c3 c4
    have h6' : tm[2]?.getD undef = .pointer (some ⟨g, 0, none⟩) := by simpa using h6
    simp [results, Tryd.results35, go_sem, c0, c1, c2, c3, c4, h6'])
  obtain ⟨Q, hQ⟩ : ∃ Q, Q = DqE w rb cb db (pLn V l) Ln.val := ⟨_, rfl⟩
  rw [← hQ]
  have BAD : Hid (∀ (c : Nat) (e : Ending) (w' : World), pLn V l = .inr c → Thrown w1 rb cb c e w' → Q e w') := Lib.hid (fun c e w' hp ht => by rw [hQ]; exact .inr ⟨c, hp, ht.early0 F1.out⟩)
  have FIN : Hid (∀ (x : Ln) (l' : List Nat) (w' : World), pLn V l = .inl (x, l') → Rdr w' rb cb db l' → Frm [rb, g] w1 w' → Q (.returned x.val) w') := Lib.hid (fun x l' w' hp hr hf => by
    rw [hQ]
    refine .inl ⟨x, l', hp, rfl, hr, ?_⟩
    exact F1.out.trans hf (by simp) (fun y hy => by
      simp at hy
      rcases hy with rfl | rfl
      · exact .inl (by simp)
      · exact .inr (by omega)))
  have HW1 := Lib.hid hw1
  have HG := Lib.hid hg
  clear hlt hg hw1 h hT hB hdb hfit hQ hV
  go_enter Tryd.func35, Tryd.ntmps35
  go_wp2_with fail
  rw [← HW1.out, ← HG.out]
  (with_reducible refine C1.out.mono ?_)
  rintro e w2 (⟨s, l1, hp1, rfl, hr2, hf2⟩ | ⟨c, hp1, ht⟩)
  rotate_left
  · have hb := BAD.out c e w2 (by unfold pLn; exact thn_inr hp1) ht
    obtain ⟨rfl, _⟩ := ht
    exact ⟨rfl, hb⟩
  have P1 := Lib.hid hp1
  have F2 := Lib.hid hf2
  have C2 := Lib.hid (dq_u64 hr2 (Nat.lt_of_lt_of_le DB1.out hf2.size))
  clear hp1 hr2 hf2 C1
  go_wp2_with fail
  (with_reducible refine C2.out.mono ?_)
  rintro e w3 (⟨d, l2, hp2, rfl, hr3, hf3⟩ | ⟨c, hp2, ht⟩)
  rotate_left
  · have hb := BAD.out c e w3 (by unfold pLn; rw [thn_inl P1.out]; exact thn_inr hp2) (ht.early F2.out)
    obtain ⟨rfl, _⟩ := ht
    exact ⟨rfl, hb⟩
  have P2 := Lib.hid hp2
  have F3 : Hid (Frm [rb] w1 w3) := Lib.hid (F2.out.trans hf3 (fun x hx => hx) (fun x hx => .inl hx))
  have C3 := Lib.hid (dq_u64 hr3 (Nat.lt_of_lt_of_le DB1.out F3.out.size))
  clear hp2 hr3 hf3 C2
  go_wp2_with fail
  (with_reducible refine C3.out.mono ?_)
  rintro e w4 (⟨a, l3, hp3, rfl, hr4, hf4⟩ | ⟨c, hp3, ht⟩)
  rotate_left
  · have hb := BAD.out c e w4 (by unfold pLn; rw [thn_inl P1.out, thn_inl P2.out]; exact thn_inr hp3) (ht.early F3.out)
    obtain ⟨rfl, _⟩ := ht
    exact ⟨rfl, hb⟩
  have P3 := Lib.hid hp3
  have F4 : Hid (Frm [rb] w1 w4) := Lib.hid (F3.out.trans hf4 (fun x hx => hx) (fun x hx => .inl hx))
  have C4 := Lib.hid (dq_u64 hr4 (Nat.lt_of_lt_of_le DB1.out F4.out.size))
  clear hp3 hr4 hf4 C3
  go_wp2_with fail
  (with_reducible refine C4.out.mono ?_)
  rintro e w5 (⟨f, l4, hp4, rfl, hr5, hf5⟩ | ⟨c, hp4, ht⟩)
  rotate_left
  · have hb := BAD.out c e w5 (by unfold pLn; rw [thn_inl P1.out, thn_inl P2.out, thn_inl P3.out]; exact thn_inr hp4) (ht.early F4.out)
    obtain ⟨rfl, _⟩ := ht
    exact ⟨rfl, hb⟩
  have F5 : Hid (Frm [rb] w1 w5) := Lib.hid (F4.out.trans hf5 (fun x hx => hx) (fun x hx => .inl hx))
  have PL : Hid (pLn V l = .inl (⟨s, d, d, a, f⟩, l4)) := Lib.hid (by unfold pLn; rw [thn_inl P1.out, thn_inl P2.out, thn_inl P3.out, thn_inl hp4])
  have B5 : Hid (Whole w5 g 56 #[.string ⟨#[]⟩, .int .u64 0, .int .u64 0, .int .u64 0, .int .u64 0]) := Lib.hid (F5.out.whole B1.out (by simp; exact fun e => NE.out.1 e.symm))
  have R5 := Lib.hid hr5
  clear hp4 hr5 hf5 C4
  have hb5 := B5.out.alloc (.cells #[.string s, .int .u64 (d : Nat), .int .u64 (d : Nat), .int .u64 (a : Nat), .int .u64 (f : Nat)] 56)
  have y0 := hb5.cell 0
  have y1 := hb5.cell 1
  have y2 := hb5.cell 2
  have y3 := hb5.cell 3
  have y4 := hb5.cell 4
  simp at y0 y1 y2 y3 y4
  have k0 := hb5.free 0
  have k1 := hb5.free 1
  have k2 := hb5.free 2
  have k3 := hb5.free 3
  have k4 := hb5.free 4
  have DD := Lib.hid (((((hb5.put 0 (.string s)).put 1 (.int .u64 (d : Nat))).put 2 (.int .u64 (d : Nat))).put 3 (.int .u64 (a : Nat))).put 4 (.int .u64 (f : Nat)))
  have FZ : Hid (∀ O, Frm [g] w5 ((((((w5.alloc O).setCell ⟨g, 0, none⟩ (.string s)).setCell ⟨g, 1, none⟩ (.int .u64 (d : Nat))).setCell ⟨g, 2, none⟩ (.int .u64 (d : Nat))).setCell ⟨g, 3, none⟩ (.int .u64 (a : Nat))).setCell ⟨g, 4, none⟩ (.int .u64 (f : Nat)))) := Lib.hid (fun O => ((((((Frm.refl _ _).alloc _).setCell (.inl (by simp)) _).setCell (.inl (by simp)) _).setCell (.inl (by simp)) _).setCell (.inl (by simp)) _).setCell (.inl (by simp)) _)
  clear hb5
  go_wp2
  refine bodyPost_ret (V0.out _ s d a f _ rfl (by simpa using DD.out)) rfl ?_
  refine FIN.out ⟨s, d, d, a, f⟩ l4 _ PL.out (R5.out.keep (FZ.out _) (by simp; exact NE.out.1) (by simp; exact NE.out.2.1) (by simp; exact NE.out.2.2)) (F5.out.trans (FZ.out _) (by simp) (by simp))
end Go.Proofs.YtahhkffghhgojaaDoor
