/- The writer in memory (Wq); contracts of at, goes, item; of slices.Contains at int. -/
import Derived.Test.YtecfoomjpjcldaaWrNew
import Derived.Test.YtecfoomjpjcldaaQuRef
import Derived.Test.YtecfoomjpjcldaaPkClone
import Derived.Laws.Rows
namespace Go.Proofs.Ytecfoomjpjcldaa
open Go.RowKit
set_option maxRecDepth 100000
/-- Is a number in a list? -/
def hasI (l : List Nat) (v : Int) : Bool := l.any fun x => (x : Int) == v
theorem hasI_nat (l : List Nat) (p : Nat) : hasI l (p : Int) = l.contains p := by
  unfold hasI
  rw [Bool.eq_iff_iff, List.any_eq_true, List.contains_iff_mem]
  constructor
  · rintro ⟨x, hx, he⟩
    have : x = p := by rw [beq_iff_eq] at he; omega
    exact this ▸ hx
  · intro h
    exact ⟨p, h, by simp⟩
theorem index_any (a : Option Addr) (n cap : Nat) (l : List Nat) (v : Int) (w : World) (h : IIn w a l) (hn : n = l.length) (hl : l.length ≤ 1000) :
    Calls Try.prog 63 #[.slice a n cap, .int .i64 v] w fun x w' => (∃ k : Int, x = .returned (.int .i64 k) ∧ decide (0 ≤ k) = hasI l v) ∧ w' = w := by
  have HN := Lib.hid hn; clear hn
  have H := Lib.hid h; clear h
  have hn1000 : n ≤ 1000 := by have := HN.out; omega
  go_enter Try.func63, Try.ntmps63
  go_wp2
  go_loopw [8] (fun s8 wr => ∃ k : Nat, k ≤ l.length ∧ s8 = .int .i64 (k : Nat) ∧ Hid (∀ i, i < k → ¬ ((l.getD i 0 : Nat) : Int) = v) ∧ wr = w) (fun s8 _ => l.length - (intOf s8).toNat)
  case atStart => exact ⟨0, Nat.zero_le _, rfl, Lib.hid (fun i hi => absurd hi (by omega)), rfl⟩
  case round =>
    obtain ⟨k, hk, rfl, HALL, rfl⟩ := hrel
    by_cases hlt : k < n
    · have hlt' : k < l.length := by rw [← HN.out]; exact hlt
      obtain ⟨b, off, rfl, hc⟩ := H.out k hlt'
      obtain ⟨q, hq⟩ : ∃ q, q = l.getD k 0 := ⟨_, rfl⟩
      rw [← hq] at hc
      have HQ := Lib.hid hq; clear hq
      by_cases hqp : (q : Int) = v
      · have hd : (v == (q : Int)) = true := by rw [beq_iff_eq]; exact hqp.symm
        have HC : Hid (hasI l v = true) := Lib.hid (by
          unfold hasI
          rw [List.any_eq_true]
          exact ⟨q, by rw [HQ.out]; simp [hlt'], by rw [beq_iff_eq]; exact hqp⟩)
        clear hqp
        go_wp2
        go_ret
        exact ⟨⟨_, rfl, by rw [HC.out]; simp⟩, rfl⟩
      · have hd : (v == (q : Int)) = false := by rw [beq_eq_false_iff_ne]; exact fun h => hqp h.symm
        go_wp2
        go_roundw
        case rel =>
          refine ⟨k + 1, hlt', by go_num, Lib.hid (fun i hi => ?_), by first | rfl | trivial⟩
          by_cases hik : i = k
          · rw [hik, ← HQ.out]; exact hqp
          · exact HALL.out i (by omega)
        case measure => simp [intOf]; omega
    · have HC : Hid (hasI l v = false) := Lib.hid (by
        unfold hasI
        rw [List.any_eq_false]
        intro x hx he
        rw [beq_iff_eq] at he
        obtain ⟨i, hi, rfl⟩ := List.getElem_of_mem hx
        refine HALL.out i (by have := HN.out; omega) ?_
        rw [List.getD_eq_getElem?_getD, List.getElem?_eq_getElem hi]
        exact he)
      go_wp2
      go_ret
      exact ⟨⟨_, rfl, by rw [HC.out]; decide⟩, rfl⟩
theorem contains_any (a : Option Addr) (n cap : Nat) (l : List Nat) (v : Int) (w : World) (h : IIn w a l) (hn : n = l.length) (hl : l.length ≤ 1000) :
    Calls Try.prog 56 #[.slice a n cap, .int .i64 v] w fun x w' => x = .returned (.bool (hasI l v)) ∧ w' = w := by
  have HI := Lib.hid (index_any a n cap l v w h hn hl)
  clear h hn hl
  go_enter Try.func56, Try.ntmps56
  go_wp2_with fail
  (with_reducible refine HI.out.mono ?_)
  rintro e w' ⟨⟨k, rfl, hk⟩, rfl⟩
  go_wp2
  go_ret
  exact ⟨by rw [← hk]; rfl, rfl⟩
/-- Cells of a writer. -/
theorem wrC_at (p q a : Int) (su co : Nat) (cl : Bool) (Y : List Value) (j : Nat) : (wrC p q a su co cl Y)[6 + j]? = Y[j]? := by
  unfold wrC
  rw [List.getElem?_toArray, List.getElem?_append_right (by simp)]
  simp
theorem wrC_head (p q a : Int) (su co : Nat) (cl : Bool) (Y : List Value) : (wrC p q a su co cl Y)[0]? = some (.int .i64 p) ∧ (wrC p q a su co cl Y)[1]? = some (.int .i64 q) ∧ (wrC p q a su co cl Y)[2]? = some (.int .i64 a) ∧ (wrC p q a su co cl Y)[3]? = some (.int .u64 (su : Nat)) ∧ (wrC p q a su co cl Y)[4]? = some (.int .u64 (co : Nat)) ∧ (wrC p q a su co cl Y)[5]? = some (.bool cl) := by
  unfold wrC
  simp
theorem wrC_set (p q a : Int) (su co : Nat) (cl : Bool) (Y : List Value) (j : Nat) (v : Value) : (wrC p q a su co cl Y).setIfInBounds (6 + j) v = wrC p q a su co cl (Y.set j v) := by
  unfold wrC
  rw [List.setIfInBounds_toArray]
  congr 1
  rw [List.set_append_right _ _ (by simp)]
  simp
theorem wrC_su (p q a : Int) (su co : Nat) (cl : Bool) (Y : List Value) (n : Nat) : (wrC p q a su co cl Y).setIfInBounds 3 (.int .u64 (n : Nat)) = wrC p q a n co cl Y := by unfold wrC; simp
theorem wrC_co (p q a : Int) (su co : Nat) (cl : Bool) (Y : List Value) (n : Nat) : (wrC p q a su co cl Y).setIfInBounds 4 (.int .u64 (n : Nat)) = wrC p q a su n cl Y := by unfold wrC; simp
theorem wrC_cl (p q a : Int) (su co : Nat) (cl : Bool) (Y : List Value) (b : Bool) : (wrC p q a su co cl Y).setIfInBounds 5 (.bool b) = wrC p q a su co b Y := by unfold wrC; simp
/-- One that waits, at the place k of the row: its bytes, who has it. -/
structure WrE (w : World) (F : List Nat) (Y : List Value) (k : Nat) (d : List Nat) (h : Nat → Bool) : Prop where
  data : ∃ a c, Y[k * 8]? = some (.slice a d.length c) ∧ Bytes w a d ∧ (d ≠ [] → ∀ x, a = some x → x.block ∉ F) ∧ (a = none → c = 0)
  has : ∀ j, j < 7 → Y[k * 8 + 1 + j]? = some (.bool (h j))
/-- The writer at p: its quorum; all entries D (those from su on wait); who has which; closed. Nothing of it lies in the blocks F. -/
structure Wq (w : World) (B p : Nat) (F : List Nat) (P W A : Nat) (D : List (List Nat)) (H : Nat → Nat → Bool) (su : Nat) (cl : Bool) : Prop where
  box : ∃ Y, Whole w p 98 (wrC P W A su D.length cl Y) ∧ Y.length = 512 ∧ ∀ n, su ≤ n → n < D.length → WrE w (p :: F) Y (n % 64) (D.getD n []) (H n)
  quo : 1 ≤ A ∧ A ≤ W ∧ W ≤ P ∧ P ≤ 7
  wait : su ≤ D.length ∧ D.length ≤ su + 64 ∧ D.length ≤ 1048576
  small : ∀ d ∈ D, d.length ≤ 256
  hp : B ≤ p
  out : p ∉ F
theorem WrE.keep {w w' : World} {F F' T : List Nat} {Y : List Value} {k : Nat} {d : List Nat} {h : Nat → Bool} (he : WrE w F Y k d h) (hf : Frm T w w') (hT : ∀ x ∈ T, x ∈ F ∨ w.heap.size ≤ x) (hF : ∀ x ∈ F', x ∈ F ∨ w.heap.size ≤ x) : WrE w' F' Y k d h := by
  obtain ⟨a, c, h1, h2, h3, h4⟩ := he.data
  refine ⟨⟨a, c, h1, hf.bytes' h2 (fun hne x hx hm => ?_), fun hne x hx hm => ?_, h4⟩, he.has⟩
  · rcases hT _ hm with h5 | h5
    · exact h3 hne x hx h5
    · have := bytes_lt h2 hne x hx; omega
  · rcases hF _ hm with h5 | h5
    · exact h3 hne x hx h5
    · have := bytes_lt h2 hne x hx; omega
section
variable {w w' : World} {B p : Nat} {F F' T : List Nat} {P W A : Nat} {D : List (List Nat)} {H : Nat → Nat → Bool} {su : Nat} {cl : Bool}
theorem Wq.lt (h : Wq w B p F P W A D H su cl) : p < w.heap.size := by obtain ⟨Y, hY, _⟩ := h.box; exact hY.lt
theorem Wq.keep (h : Wq w B p F P W A D H su cl) (hf : Frm T w w') (hT : ∀ x ∈ T, x ∈ F ∨ w.heap.size ≤ x) (hF : ∀ x ∈ F', x ∈ F ∨ w.heap.size ≤ x) : Wq w' B p F' P W A D H su cl := by
  have hlt := h.lt
  obtain ⟨Y, hY, hl, he⟩ := h.box
  have hpT : p ∉ T := fun hm => by
    rcases hT p hm with h1 | h1
    · exact h.out h1
    · omega
  refine ⟨⟨Y, hf.whole hY hpT, hl, fun n h1 h2 => (he n h1 h2).keep hf (fun x hx => (hT x hx).imp (List.mem_cons_of_mem _) id) (fun x hx => ?_)⟩, h.quo, h.wait, h.small, h.hp, fun hm => ?_⟩
  · rcases List.mem_cons.1 hx with rfl | hx
    · exact .inl (by simp)
    · exact (hF x hx).imp (List.mem_cons_of_mem _) id
  · rcases hF p hm with h1 | h1
    · exact h.out h1
    · omega
theorem Wq.here (h : Wq w B p F P W A D H su cl) (hf : Frm [] w w') : Wq w' B p F P W A D H su cl := h.keep hf (by simp) (fun x hx => .inl hx)
end
theorem wrat_any (p n : Nat) (w : World) (hn : n < 18446744073709551616) :
    Calls Try.prog 44 #[.pointer (some ⟨p, 0, none⟩), .int .u64 (n : Nat)] w fun e w' => e = .returned (.pointer (some ⟨p, 6 + n % 64 * 8, none⟩)) ∧ w = w' := by
  obtain ⟨k, hk⟩ : ∃ k, k = n % 64 := ⟨_, rfl⟩
  have m1 : (n : Int) % 64 = (k : Int) := by rw [hk]; rfl
  have hk64 : k < 64 := by omega
  rw [← hk]
  clear hk
  go_enter Try.func44, Try.ntmps44
  go_wp2
  go_ret
  exact ⟨rfl, rfl⟩
theorem wrgoes_any {w : World} {B p : Nat} {F : List Nat} {P W A : Nat} {D : List (List Nat)} {H : Nat → Nat → Bool} {su : Nat} {cl : Bool} (n : Nat) (pl : Int) (h : Wq w B p F P W A D H su cl) (hn : n < 18446744073709551616) :
    Calls Try.prog 45 #[.pointer (some ⟨p, 0, none⟩), .int .u64 (n : Nat), .int .i64 pl] w fun e w' => e = .returned (.bool (hasI (setN P W n) pl)) ∧ Frm [] w w' := by
  obtain ⟨Y, hY, _⟩ := h.box
  obtain ⟨q1, q2, q3, q4⟩ := h.quo
  obtain ⟨c0, c1, c2, _⟩ := wrC_head P W A su D.length cl Y
  have d0 := (hY.cell 0).trans c0
  have d1 := (hY.cell 1).trans c1
  have d2 := (hY.cell 2).trans c2
  have HS := Lib.hid (qset_any P W A n w q1 q2 q4 q3 hn)
  have hW7 : W ≤ 7 := by omega
  have HL : Hid (W = (setN P W n).length) := Lib.hid (by simp [setN])
  clear h hY c0 c1 c2
  go_enter Try.func45, Try.ntmps45
  go_wp2_with fail
  (with_reducible refine HS.out.mono ?_)
  rintro e w1 ⟨b, _, rfl, hW, hf⟩
  have HC := Lib.hid (contains_any (some ⟨b, 0, none⟩) W W (setN P W n) pl w1 hW.iin HL.out (by rw [← HL.out]; omega))
  have HF := Lib.hid hf
  clear hW hf HS
  go_wp2_with fail
  (with_reducible refine HC.out.mono ?_)
  rintro e w2 ⟨rfl, rfl⟩
  go_wp2
  go_ret
  exact ⟨rfl, HF.out⟩
theorem own_baseW {w : World} {base base' : Nat} {e : TypeId} {size n : Nat} {v : Value} {xs : List Value} (h : w.ownsRow base e size v n xs) (hb : base' ≤ base) : w.ownsRow base' e size v n xs := by
  refine ⟨h.1, ?_⟩
  rcases h.2 with h2 | ⟨g, cap, cur, hv, hg, r⟩
  · exact .inl h2
  · exact .inr ⟨g, cap, cur, hv, by omega, r⟩
/-- One that waits, in memory of its own. -/
theorem writem_any {w : World} {B p : Nat} {F : List Nat} {P W A : Nat} {D : List (List Nat)} {H : Nat → Nat → Bool} {su : Nat} {cl : Bool} (n : Nat) (h : Wq w B p F P W A D H su cl) (h1 : su ≤ n) (h2 : n < D.length) :
    Calls Try.prog 47 #[.pointer (some ⟨p, 0, none⟩), .int .u64 (n : Nat)] w fun e w' => ∃ a c, e = .returned (.agg #[.int .u64 (n : Nat), .slice a (D.getD n []).length c]) ∧ w'.ownsRow w.heap.size 5 1 (.slice a (D.getD n []).length c) (D.getD n []).length ((D.getD n []).map u8v) ∧ Frm [] w w' := by
  obtain ⟨Y, hY, hl, he⟩ := h.box
  obtain ⟨a, c, hd, hb, _, hnil⟩ := (he n h1 h2).data
  have hsz := h.wait.2.2
  have hsm : (D.getD n []).length ≤ 256 := h.small _ (by simp [h2])
  have c0 := (hY.cell (6 + n % 64 * 8)).trans ((wrC_at P W A su D.length cl Y (n % 64 * 8)).trans hd)
  obtain ⟨d, hdd⟩ : ∃ d, d = D.getD n [] := ⟨_, rfl⟩
  rw [← hdd] at c0 hb hsm ⊢
  obtain ⟨dn, hdn⟩ : ∃ dn, dn = d.length := ⟨_, rfl⟩
  rw [← hdn] at c0
  have HAT := Lib.hid (fun (z : World) => wrat_any p n z (by omega))
  obtain ⟨k, hk⟩ : ∃ k, k = n % 64 := ⟨_, rfl⟩
  rw [← hk] at c0 HAT
  have hpl := hY.lt
  obtain ⟨w0, hw0⟩ : ∃ w0, w0 = w.alloc (.cells #[.int .u64 0, .slice none 0 0] 55) := ⟨_, rfl⟩
  have hf0 : Frm [] w w0 := by rw [hw0]; exact (Frm.refl _ _).alloc _
  have c1 : w0.cell? ⟨p, 6 + k * 8, none⟩ = some (.slice a dn c) := (hf0.cell (p := ⟨p, 6 + k * 8, none⟩) hpl (by simp)).trans c0
  have HCL := Lib.hid (clone_any a dn c d w0 (hf0.bytes' hb (by simp)) hdn hnil (by omega))
  have HW0 := Lib.hid hw0
  have HF0 := Lib.hid hf0
  have HDN := Lib.hid hdn
  have c2 := c1
  rw [hw0] at c2
  clear h hY he hd hb hnil hdd hdn hk hf0 hw0 hsz hl h1 h2 c0
  go_enter Try.func47, Try.ntmps47
  go_wp2_with fail
  (with_reducible refine (HAT.out _).mono ?_)
  rintro e w' ⟨rfl, rfl⟩
  go_wp2_with fail
  rw [← HW0.out]
  (with_reducible refine HCL.out.mono ?_)
  rintro e w1 ⟨a1, c1', rfl, ho, hf⟩
  have hWb := hf.whole (show Whole w0 w.heap.size 55 #[.int .u64 0, .slice none 0 0] by rw [HW0.out]; exact Whole.made _ _ _) (by simp)
  rw [← HDN.out] at ho ⊢
  have b0 := hWb.cell 0
  have b1 := hWb.cell 1
  have k0 := hWb.free 0
  have k1 := hWb.free 1
  simp at b0 b1
  have hW2 : Whole ((w1.setCell ⟨w.heap.size, 0, none⟩ (.int .u64 (n : Nat))).setCell ⟨w.heap.size, 1, none⟩ (.slice a1 dn c1')) w.heap.size 55 #[.int .u64 (n : Nat), .slice a1 dn c1'] := by
    have := (hWb.put 0 (.int .u64 (n : Nat))).put 1 (.slice a1 dn c1')
    simpa using this
  have hf2 : Frm [w.heap.size] w1 ((w1.setCell ⟨w.heap.size, 0, none⟩ (.int .u64 (n : Nat))).setCell ⟨w.heap.size, 1, none⟩ (.slice a1 dn c1')) := ((Frm.refl _ _).setCell (.inl (by simp)) _).setCell (.inl (by simp)) _
  have hgs : w0.heap.size = w.heap.size + 1 := by rw [HW0.out]; simp
  have HO2 := Lib.hid (hf2.own ho (fun g hg hm => by simp at hm; have h1 := (ho.lt g hg).1; omega))
  have HF2 := Lib.hid ((HF0.out.trans hf (U := []) (by simp) (by simp)).trans hf2 (U := []) (by simp) (fun x hx => .inr (by simp at hx; omega)))
  have HW2 := Lib.hid hW2
  clear ho hf hWb hW2 hf2 HCL
  go_wp2
  refine bodyPost_ret (results_cell_row (P := Try.prog) rfl _ _ w.heap.size _ _ _ _ rfl HW2.out Try.underlying55 rfl (by kernel_rfl)) rfl ?_
  exact ⟨a1, c1', by rw [← HDN.out], by rw [← HDN.out]; exact own_baseW HO2.out HF0.out.size, HF2.out⟩
end Go.Proofs.Ytecfoomjpjcldaa
