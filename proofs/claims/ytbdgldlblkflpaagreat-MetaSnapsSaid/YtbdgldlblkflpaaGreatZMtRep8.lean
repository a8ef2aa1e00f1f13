/- Contract of replay. -/
import Derived.Test.YtbdgldlblkflpaaGreatZMtRepBy
namespace Go.Proofs.YtbdgldlblkflpaaGreat
open Go.RowKit
set_option maxRecDepth 100000
theorem enters_replay (args : Array Value) (w : World) : (callFunc 97 args).run Tryz.prog w = .ok (.enter 97 args) w := by
  kernel_rfl
set_option maxHeartbeats 8000000 in
theorem rep_ok : RepOk := by
  intro w B p tp bp n cap F S a b h hM hF hp hB hb hn hnil hlen
  obtain ⟨w0, hw0⟩ : ∃ w0, w0 = w.alloc (.cells #[.pointer (some ⟨p, 0, none⟩)] 150) := ⟨_, rfl⟩
  obtain ⟨x, hx⟩ : ∃ x, x = w.heap.size := ⟨_, rfl⟩
  have hW : Whole w0 x 150 #[.pointer (some ⟨p, 0, none⟩)] := by rw [hw0, hx]; exact Whole.made _ _ _
  have hf0 : Frm [] w w0 := by rw [hw0]; exact (Frm.refl _ _).alloc _
  have hpl := h.st.lt
  have hbl : n = b.length := hn
  -- where by is called
  have BY : Hid (∀ w1 rb cb db, Told w0 w1 rb cb db b → Calls Tryz.prog 97 (#[.pointer (some ⟨rb, 0, none⟩)] ++ #[.pointer (some ⟨x, 0, none⟩)]) w1 (ByEnd w1 B (rb :: cb :: db :: x :: w0.heap.size :: (w0.heap.size + 1) :: F) p tp bp rb cb db S b)) := Lib.hid (by
    intro w1 rb cb db ht
    have hs0 := hf0.size
    have hs1 := ht.frm.size
    have h2 := ht.two
    have h3 := ht.hr
    have h4 := ht.hc
    have h5 := ht.hd
    have hnew : ∀ y ∈ rb :: cb :: db :: x :: w0.heap.size :: (w0.heap.size + 1) :: F, y ∈ F ∨ w.heap.size ≤ y := by
      intro y hy
      simp at hy
      rcases hy with rfl | rfl | rfl | rfl | rfl | rfl | hy
      all_goals first | exact .inl hy | (right; omega)
    refine by_any (h.keep (hf0.trans ht.frm (U := []) (by simp) (by simp)) hp (by simp) hnew) hM ht.rdr ht.dlt (ht.frm.whole hW (by simp)) ?_ ?_ (by omega) hlen
    · intro y hy
      simp at hy
      rcases hy with rfl | rfl | hy
      · omega
      · omega
      · have := hF y hy; omega
    · intro hm
      rcases hnew p hm with h1 | h1
      · exact hp h1
      · omega)
  have HB0 := Lib.hid (hf0.bytes' hb (by simp))
  have HH := Lib.hid h
  have HF0 := Lib.hid hf0
  have HW := Lib.hid hw0
  have HX := Lib.hid hx
  have HPL := Lib.hid hpl
  have HP := Lib.hid hp
  have HFF := Lib.hid hF
  have hfit : n ≤ 140737488355328 := by omega
  obtain ⟨Q, hQ⟩ : ∃ Q, Q = RepEnd w B F p tp bp S b := ⟨_, rfl⟩
  rw [← hQ]
  have HQ := Lib.hid hQ
  have hmf : ∀ (fn : Fn) (first cap : Array Value) (w : World), (Instr.makeFunc fn first cap).run Tryz.prog w = .ok (.func fn first cap) w := fun _ _ _ _ => rfl
  -- what Read answers
  have RD : Hid (Calls Tryz.prog 96 #[.slice a n cap, .func (.func 97) #[] #[.pointer (some ⟨x, 0, none⟩)]] w0 (fun e w' => ∃ c, e = .returned (.int .i64 c) ∧ Q (.returned (.int .i64 c)) w')) := Lib.hid (by
    have small : ∀ y ∈ [p, tp, bp], y < w0.heap.size := by
      intro y hy
      have h1 := h.d.tlt
      have h2 := h.d.blt
      have h3 := hf0.size
      simp at hy
      rcases hy with rfl | rfl | rfl <;> omega
    cases hpre : pre1 S b with
    | some r =>
      obtain ⟨S', m⟩ := r
      refine (read_ret8 97 #[.pointer (some ⟨x, 0, none⟩)] a n cap b w0 (fun w2 rest => rest = m ∧ ∃ tq bq, Ms w2 B (w0.heap.size :: (w0.heap.size + 1) :: F) p tq bq S' ∧ Frm [p, tp, bp] w0 w2) HB0.out hn hnil hfit enters_replay (fun w1 rb cb db ht => (BY.out w1 rb cb db ht).mono ?_)).mono ?_
      · rintro e w2 (⟨T, m2, tq, bq, hp1, rfl, hms, hr, hf⟩ | ⟨hno, _⟩)
        · rw [hpre] at hp1
          cases hp1
          refine ⟨rfl, m, [rb, p, tp, bp], ⟨rfl, tq, bq, hms.keep (G := []) (Frm.refl _ _) (by
            intro hm
            have h0 := hf0.size
            have h1 := ht.hr
            have h2 := ht.hc
            have h3 := ht.hd
            simp at hm
            rcases hm with rfl | rfl | rfl | rfl | rfl | rfl | hm
            all_goals first | exact hp hm | omega) (by simp) (fun y hy => .inl (List.mem_cons_of_mem _ (List.mem_cons_of_mem _ (List.mem_cons_of_mem _ (List.mem_cons_of_mem _ hy))))), ?_⟩, hr, hf, fun y hy => ?_⟩
          · refine ht.frm.trans hf (by simp) (fun y hy => ?_)
            simp at hy
            rcases hy with rfl | hy
            · exact .inr ht.hr
            · exact .inl (by simp [hy])
          · rcases List.mem_cons.1 hy with rfl | hy
            · exact .inl rfl
            · exact .inr (.inr (.inl (small y hy)))
        · rw [hpre] at hno; cases hno
      · rintro e w' ⟨w2, c, T, rfl, ⟨rest, ⟨rfl, tq, bq, hms, hf2⟩, hc⟩, hf3, hT⟩
        refine ⟨c, rfl, ?_⟩
        have hall : Frm [p, tp, bp] w w' := (hf0.trans hf2 (U := [p, tp, bp]) (by simp) (fun y hy => .inl hy)).trans hf3 (fun y hy => hy) (fun y hy => .inr (by have := (hT y hy).1; have := hf0.size; omega))
        rw [hQ]
        by_cases hr : rest = []
        · rw [if_pos hr] at hc
          subst hc
          refine .inl ⟨S', tq, bq, by rw [pre1_some hpre, if_pos hr], rfl, hms.keep hf3 (by
            intro hm
            have h0 := hf0.size
            simp at hm
            rcases hm with rfl | rfl | hm
            · omega
            · omega
            · exact hp hm) (fun y hy => .inl (by have := hT y hy; simp; omega)) (fun y hy => .inl (by simp [hy])), hall⟩
        · rw [if_neg hr] at hc
          subst hc
          exact .inr ⟨by rw [pre1_some hpre, if_neg hr], 5, by decide, rfl, hall⟩
    | none =>
      refine (read_throw8 97 #[.pointer (some ⟨x, 0, none⟩)] a n cap b w0 (fun w2 => Frm [p, tp, bp] w0 w2) (fun c => ∃ k : Nat, k ≠ 0 ∧ c = (k : Nat)) HB0.out hn hnil hfit enters_replay (fun w1 rb cb db ht => (BY.out w1 rb cb db ht).mono ?_)).mono ?_
      · rintro e w2 (⟨T, m2, tq, bq, hp1, _⟩ | ⟨_, c, hc, rfl, hcw, hf⟩)
        · rw [hpre] at hp1; cases hp1
        · refine ⟨(c : Nat), ⟨c, hc, rfl⟩, rfl, [rb, cb, p, tp, bp], ?_, hcw, hf, fun y hy => ?_⟩
          · refine ht.frm.trans hf (by simp) (fun y hy => ?_)
            simp at hy
            rcases hy with rfl | rfl | hy
            · exact .inr ht.hr
            · exact .inr ht.hc
            · exact .inl (by simp [hy])
          · rcases List.mem_cons.1 hy with rfl | hy
            · exact .inl rfl
            · rcases List.mem_cons.1 hy with rfl | hy
              · exact .inr (.inl rfl)
              · exact .inr (.inr (.inl (small y hy)))
      · rintro e w' ⟨w2, c, T, rfl, ⟨hf2, k, hk, rfl⟩, hf3, hT⟩
        refine ⟨(k : Nat), rfl, ?_⟩
        have hall : Frm [p, tp, bp] w w' := (hf0.trans hf2 (U := [p, tp, bp]) (by simp) (fun y hy => .inl hy)).trans hf3 (fun y hy => hy) (fun y hy => .inr (by have := (hT y hy).1; have := hf0.size; omega))
        rw [hQ]
        exact .inr ⟨pre1_none hpre, k, hk, rfl, hall⟩)
  clear h hM hF hp hB hb hn hnil hlen hW hf0 hpl hbl hw0 hx hQ
  go_enter Tryz.func64, Tryz.ntmps64
  go_wp2_with fail
  rw [← HW.out, ← HX.out]
  (with_reducible refine RD.out.mono ?_)
  rintro e w1 ⟨c, rfl, hq⟩
  have HE := Lib.hid hq
  clear hq
  go_wp2
  exact HE.out
end Go.Proofs.YtbdgldlblkflpaaGreat
