/- Contract of the program's add. -/
import Derived.Test.YtefplgligmkbiaaBkBase
namespace Go.Proofs.Ytefplgligmkbiaa
open Go.RowKit

/-- What a change of the book leaves. -/
def BkTo (w w' : World) (B p : Nat) (last' : Nat) (X' : List Sn) : Prop := (∃ Y', Bk w' B p 63 last' X' Y') ∧ Frm [p] w w'

set_option maxRecDepth 100000 in
set_option maxHeartbeats 2000000 in
theorem add_any {w : World} {B p last : Nat} {X Y : List Sn} (s : Sn) (h : Bk w B p 63 last X Y) (hf : s.fits) (hn : X.length < 16) (hs : SrtS last (X ++ [s])) :
    Calls Try.prog 25 #[.pointer (some ⟨p, 0, none⟩), s.val] w fun e w' => e = .returned (.tuple #[]) ∧ BkTo w w' B p last (X ++ [s]) := by
  have hend : ∀ z : World, Frm [] w z → BkTo w (((((z.setCell ⟨p, 2 + X.length * 3, none⟩ (.int .u64 (s.id : Nat))).setCell ⟨p, 2 + X.length * 3 + 1, none⟩ (.int .u64 (s.ends : Nat))).setCell ⟨p, 2 + X.length * 3 + 2, none⟩ (.int .u64 (s.life : Nat)))).setCell ⟨p, 1, none⟩ (.int .i64 ((X.length + 1 : Nat) : Nat))) B p last (X ++ [s]) := by
    intro z hz
    refine ⟨⟨Y.set X.length s, ?_, ?_, by rw [List.length_set]; exact h.len, fun y hy => ?_, h.hp, h.lt, hs⟩, ?_⟩
    · have h0 := ((((hz.whole h.book (by simp)).put (2 + X.length * 3) (.int .u64 (s.id : Nat))).put (2 + X.length * 3 + 1) (.int .u64 (s.ends : Nat))).put (2 + X.length * 3 + 2) (.int .u64 (s.life : Nat))).put 1 (.int .i64 ((X.length + 1 : Nat) : Nat))
      have e : ((((bkL last X.length Y).toArray.setIfInBounds (2 + X.length * 3) (.int .u64 (s.id : Nat))).setIfInBounds (2 + X.length * 3 + 1) (.int .u64 (s.ends : Nat))).setIfInBounds (2 + X.length * 3 + 2) (.int .u64 (s.life : Nat))).setIfInBounds 1 (.int .i64 ((X.length + 1 : Nat) : Nat)) = (bkL last (X ++ [s]).length (Y.set X.length s)).toArray := by
        simp only [List.setIfInBounds_toArray]
        congr 1
        simp only [bkL, List.length_append, List.length_singleton]
        rw [← snc_set Y s X.length (by rw [h.len]; exact hn)]
        rw [show 2 + X.length * 3 = X.length * 3 + 1 + 1 by omega, show X.length * 3 + 1 + 1 + 1 = X.length * 3 + 1 + 1 + 1 by rfl, show X.length * 3 + 1 + 1 + 2 = X.length * 3 + 2 + 1 + 1 by omega]
        rfl
      rw [e] at h0
      exact h0
    · rw [List.length_append, List.length_singleton]
      have hl := h.len
      rw [List.take_succ_eq_append_getElem (by rw [List.length_set]; omega), List.take_set_of_le (Nat.le_refl _), h.pre, List.getElem_set_self]
    · rcases List.mem_or_eq_of_mem_set hy with h1 | h1
      · exact h.fits y h1
      · subst h1; exact hf
    · exact ((((((Frm.refl [p] w).trans (hz.weak (by simp)) (fun x hx => hx) (fun x hx => .inl hx)).setCell (.inl (by simp)) _).setCell (.inl (by simp)) _).setCell (.inl (by simp)) _).setCell (.inl (by simp)) _)
  have HE := Lib.hid hend
  have HW := Lib.hid (fun (z : World) (hz : Frm [] w z) => hz.whole h.book (by simp))
  have HC1 := Lib.hid (fun (z : World) (hz : Frm [] w z) => (h.keep hz (by simp)).c1)
  have HC2 := Lib.hid (fun (z : World) (hz : Frm [] w z) (u0 u1 u2 : Value) => (show ((((z.setCell ⟨p, 2 + X.length * 3, none⟩ u0).setCell ⟨p, 2 + X.length * 3 + 1, none⟩ u1).setCell ⟨p, 2 + X.length * 3 + 2, none⟩ u2)).cell? ⟨p, 1, none⟩ = some (.int .i64 (X.length : Nat)) ∧ ((((z.setCell ⟨p, 2 + X.length * 3, none⟩ u0).setCell ⟨p, 2 + X.length * 3 + 1, none⟩ u1).setCell ⟨p, 2 + X.length * 3 + 2, none⟩ u2)).frozen? ⟨p, 1, none⟩ = false from by
    have h0 := (((hz.whole h.book (by simp)).put (2 + X.length * 3) u0).put (2 + X.length * 3 + 1) u1).put (2 + X.length * 3 + 2) u2
    refine ⟨?_, h0.free 1⟩
    rw [h0.cell, Array.getElem?_setIfInBounds_ne (by omega), Array.getElem?_setIfInBounds_ne (by omega), Array.getElem?_setIfInBounds_ne (by omega)]
    rfl))
  have HR := Lib.hid (fun (z : World) (hz : Frm [] w z) (j : Nat) (hj : j < 48) => (show (z.cell? ⟨p, 2 + j, none⟩).isSome = true ∧ z.frozen? ⟨p, 2 + j, none⟩ = false from ⟨by rw [(h.keep hz (by simp)).cells, List.getElem?_eq_getElem (by rw [snc_length, h.len]; exact hj)]; rfl, (hz.whole h.book (by simp)).free _⟩))
  obtain ⟨i, en, li⟩ := s
  unfold Sn.val
  obtain ⟨n, hnn⟩ : ∃ n, n = X.length := ⟨_, rfl⟩
  rw [← hnn] at HE HC1 HC2 hn
  clear h hend hnn hf hs HW
  go_enter Try.func25, Try.ntmps25
  go_wp2
  obtain ⟨z, hz⟩ : ∃ z, z = w.alloc (.cells #[.int .u64 (i : Nat), .int .u64 (en : Nat), .int .u64 (li : Nat)] 56) := ⟨_, rfl⟩
  have hf : Frm [] w z := by rw [hz]; exact (Frm.refl _ _).alloc _
  have hwb : Whole z w.heap.size 56 #[.int .u64 (i : Nat), .int .u64 (en : Nat), .int .u64 (li : Nat)] := by rw [hz]; exact Whole.made _ _ _
  have b0 := hwb.cell 0
  have b1 := hwb.cell 1
  have b2 := hwb.cell 2
  simp at b0 b1 b2
  have c1 := HC1.out z hf
  obtain ⟨r0, s0⟩ := HR.out z hf (n * 3) (by omega)
  obtain ⟨r1, s1⟩ := HR.out z hf (n * 3 + 1) (by omega)
  obtain ⟨r2, s2⟩ := HR.out z hf (n * 3 + 2) (by omega)
  rw [← Nat.add_assoc] at r1 r2 s1 s2
  obtain ⟨v0, r0⟩ := Option.isSome_iff_exists.1 r0
  obtain ⟨v1, r1⟩ := Option.isSome_iff_exists.1 r1
  obtain ⟨v2, r2⟩ := Option.isSome_iff_exists.1 r2
  obtain ⟨g, hg⟩ : ∃ g, g = w.heap.size := ⟨_, rfl⟩
  rw [← hz]
  rw [← hg] at b0 b1 b2 ⊢
  clear hwb hz hg
  go_region
  obtain ⟨q1, q2⟩ := HC2.out z.drew hf.drew (.int .u64 (i : Nat)) (.int .u64 (en : Nat)) (.int .u64 (li : Nat))
  have hfin := HE.out z.drew hf.drew
  obtain ⟨z2, hz2⟩ : ∃ z2, z2 = (((z.drew.setCell ⟨p, 2 + n * 3, none⟩ (.int .u64 (i : Nat))).setCell ⟨p, 2 + n * 3 + 1, none⟩ (.int .u64 (en : Nat))).setCell ⟨p, 2 + n * 3 + 2, none⟩ (.int .u64 (li : Nat))) := ⟨_, rfl⟩
  rw [← hz2] at q1 q2 hfin
  have hz3 : (((z.setCell ⟨p, 2 + n * 3, none⟩ (.int .u64 (i : Nat))).setCell ⟨p, 2 + n * 3 + 1, none⟩ (.int .u64 (en : Nat))).setCell ⟨p, 2 + n * 3 + 2, none⟩ (.int .u64 (li : Nat))).drew = z2 := hz2.symm
  have HFIN := Lib.hid hfin
  have hsi : IntKind.i64.wrap ((n : Int) + 1) = (n : Int) + 1 := IntWalk.i64_in _ (by omega)
  first
    | rw [← hz2]
    | rw [hz3]
  clear hz2 hz3 hfin c1 b0 b1 b2 r0 r1 r2 s0 s1 s2 v0 v1 v2
  go_wp2
  go_end0
  exact ⟨rfl, HFIN.out⟩
end Go.Proofs.Ytefplgligmkbiaa
