/- The two trees beside one another; contract of the law's shows. -/
import Derived.Test.YtchhbmhnjknhaaaTrAwake
namespace Go.Proofs.Ytchhbmhnjknhaaa
open Go.RowKit

/-- The program's tree at p, the document's at q: the same nodes. -/
structure Two (w wr : World) (p q : Nat) (ta : Option Addr) (tc : Nat) (L : List Nx) (qs : List Nat) (ra : Option Addr) (rc : Nat) (X : List Nx) : Prop where
  pt : Pt wr w.heap.size p [q] ta tc L qs
  rt : Rt wr w.heap.size q [p] ra rc X
  good : Good (nds L)
  alike : Alike (nds L) X
  frm : Frm [] w wr
theorem Two.keep {w wr w' : World} {p q : Nat} {ta ra : Option Addr} {tc rc : Nat} {L X : List Nx} {qs : List Nat} (h : Two w wr p q ta tc L qs ra rc X) (hf : Frm [] wr w') : Two w w' p q ta tc L qs ra rc X :=
  ⟨h.pt.keep hf (by simp) (fun x hx => .inl hx), ⟨hf.whole h.rt.tree (by simp), h.rt.row.keep hf (by simp) (fun x hx => .inl hx), h.rt.hp, h.rt.out, h.rt.few⟩, h.good, h.alike, h.frm.trans hf (by simp) (by simp)⟩
theorem Two.ne {w wr : World} {p q : Nat} {ta ra : Option Addr} {tc rc : Nat} {L X : List Nx} {qs : List Nat} (h : Two w wr p q ta tc L qs ra rc X) : p ≠ q := fun e => h.pt.out (by simp [e])
/-- The program's tree has been turned. -/
theorem Two.turnP {w wr w' : World} {p q : Nat} {ta ra : Option Addr} {tc rc : Nat} {L X : List Nx} {qs : List Nat} {M : List Nd} (h : Two w wr p q ta tc L qs ra rc X) (ht : PtTo wr w' w.heap.size p [q] M) :
    ∃ ta' tc' L' qs', Pt w' w.heap.size p [q] ta' tc' L' qs' ∧ nds L' = M ∧ Rt w' w.heap.size q [p] ra rc X ∧ Frm [p] wr w' ∧ Frm [] w w' := by
  obtain ⟨ta', tc', L', qs', h1, h2, h3⟩ := ht
  exact ⟨ta', tc', L', qs', h1, h2, ⟨h3.whole h.rt.tree (by simp [h.ne.symm]), h.rt.row.keep h3 (fun x hx => .inl (by simp at hx; simp [hx])) (fun x hx => .inl hx), h.rt.hp, h.rt.out, h.rt.few⟩, h3, h.frm.trans h3 (by simp) (fun x hx => by simp at hx; subst hx; exact .inr h.pt.hp)⟩
theorem Two.start {w w1 : World} {p q : Nat} (hp : w.heap.size ≤ p) (hpt : Pt w1 p p [] none 0 [] []) (hf : Frm [] w w1) (hq : q = w1.heap.size) : Two w (w1.alloc (.cells #[.slice none 0 0] 29)) p q none 0 [] [] none 0 [] := by
  have hfa := (Frm.refl [] w1).alloc (.cells #[.slice none 0 0] 29)
  have hpl := hpt.tree.lt
  have h1 := hpt.keep (F' := [q]) hfa (by simp) (fun x hx => by simp at hx; subst hx; right; omega)
  subst hq
  refine ⟨⟨h1.tree, h1.len, h1.ptrs, h1.nodes, h1.ok, hp, h1.out, h1.away, h1.qout, h1.few, h1.lcap, h1.mcap, h1.nil⟩, ⟨Whole.made w1 _ _, NOwn.nil _ _ _ _, hf.size, by simp; omega, Nat.zero_le _⟩, Good.nil, Alike.nil, hf.trans hfa (by simp) (by simp)⟩

def showTab : List Value := [.string ⟨#[]⟩, .string ⟨#[97]⟩, .string ⟨#[111, 119, 110, 47]⟩, .string ⟨#[109]⟩]
theorem showTab_at {k : Nat} (h : k < 4) : ∃ P : ByteArray, showTab[k]? = some (.string P) ∧ P.size ≤ 9223372036854775807 := by
  have hk : k = 0 ∨ k = 1 ∨ k = 2 ∨ k = 3 := by omega
  rcases hk with rfl | rfl | rfl | rfl
  · exact ⟨_, rfl, by decide⟩
  · exact ⟨_, rfl, by decide⟩
  · exact ⟨_, rfl, by decide⟩
  · exact ⟨_, rfl, by decide⟩

set_option maxRecDepth 100000 in
set_option maxHeartbeats 4000000 in
theorem shows_any {w wr : World} {p q : Nat} {ta ra : Option Addr} {tc rc : Nat} {L X : List Nx} {qs : List Nat} (h : Two w wr p q ta tc L qs ra rc X) :
    Calls Try.prog 22 #[.pointer (some ⟨p, 0, none⟩), .pointer (some ⟨q, 0, none⟩)] wr (TrueF wr) := by
  obtain ⟨g, hg⟩ : ∃ g, g = wr.heap.size := ⟨_, rfl⟩
  obtain ⟨w1, hw1⟩ : ∃ w1, w1 = wr.alloc (.cells #[.string ⟨#[]⟩, .string ⟨#[97]⟩, .string ⟨#[111, 119, 110, 47]⟩, .string ⟨#[109]⟩] 9) := ⟨_, rfl⟩
  have hW1 := Whole.made wr 9 #[.string ⟨#[]⟩, .string ⟨#[97]⟩, .string ⟨#[111, 119, 110, 47]⟩, .string ⟨#[109]⟩]
  rw [← hw1, ← hg] at hW1
  have hf1 : Frm [] wr w1 := by rw [hw1]; exact (Frm.refl _ _).alloc _
  have H1 := Lib.hid (h.keep hf1)
  have HW1 := Lib.hid hW1
  have HF1 := Lib.hid hf1
  have HG := Lib.hid hg
  have HE := Lib.hid hw1
  clear h hg hw1 hW1 hf1
  go_enter Try.func22, Try.ntmps22
  go_wp2
  rw [← HE.out, ← HG.out]
  go_loopw [9] (fun u9 z => ∃ k : Nat, k ≤ 4 ∧ u9 = .int .i64 (k : Nat) ∧ Frm [] w1 z) (fun u9 _ => 4 - (intOf u9).toNat)
  case atStart => exact ⟨0, by omega, rfl, Frm.refl _ _⟩
  case round =>
    obtain ⟨k, hk, rfl, hf⟩ := hrel
    have HF := Lib.hid hf; clear hf
    by_cases hlt : k < 4
    · obtain ⟨P, hP, hPs⟩ := showTab_at hlt
      have hc := (HF.out.whole HW1.out (by simp)).cell k
      have hc2 : (#[Value.string ⟨#[]⟩, .string ⟨#[97]⟩, .string ⟨#[111, 119, 110, 47]⟩, .string ⟨#[109]⟩] : Array Value)[k]? = some (.string P) := by
        rw [← hP]; unfold showTab; simp
      rw [hc2] at hc
      have T := Lib.hid (H1.out.keep HF.out)
      have HLS := Lib.hid (list_any P T.out.pt T.out.good.srt (fun x hx => by simp at hx; subst hx; exact T.out.rt.tree.lt) T.out.good.small)
      have HPS := Lib.hid hPs
      have hlt' : (k : Int) < 4 := by omega
      clear hP hPs hc2
      go_wp2_with fail
      (with_reducible refine HLS.out.mono ?_)
      rintro e w3 ⟨a3, c3, Y3, hY3, rfl, hown3, hf3⟩
      have T3 := Lib.hid (T.out.keep hf3)
      have HRL := Lib.hid (rlist_any P T3.out.rt (fun x hx => by simp at hx; subst hx; exact T3.out.pt.tree.lt) HPS.out)
      obtain ⟨m, hm⟩ : ∃ m, m = Y3.length := ⟨_, rfl⟩
      rw [← hm]
      have HM := Lib.hid hm
      have HY3 := Lib.hid hY3
      have HO3 := Lib.hid hown3
      have HF3 := Lib.hid (HF.out.trans hf3 (U := []) (by simp) (by simp))
      clear hm hY3 hown3 hf3 HLS
      go_wp2_with fail
      (with_reducible refine HRL.out.mono ?_)
      rintro e w4 ⟨a4, c4, rfl, hown4, hf4⟩
      have hnd : nds (lsN P X) = nds Y3 := by rw [T3.out.alike.list, HY3.out]
      have hl4 : (lsN P X).length = m := by rw [← nds_len', hnd, nds_len', HM.out]
      rw [hl4]
      have hm63 : m ≤ 9223372036854775807 := by rw [HM.out]; have h1 := HO3.out.caps.1; have h2 := HO3.out.caps.2.1; unfold maxLen at h2; omega
      have HSN := Lib.hid (sameNodes_true a3 a4 m c3 c4 Y3 (lsN P X) [p, q] _ w4 (HO3.out.nl.keep (F' := [p, q]) hf4 (by simp) (fun x hx => .inl hx)) hown4.nl HM.out hnd.symm hm63)
      have HF4 := Lib.hid (HF3.out.trans hf4 (U := []) (by simp) (by simp))
      clear hnd hl4 hm63 hown4 hf4 HRL
      go_wp2_with fail
      (with_reducible refine HSN.out.mono ?_)
      rintro e w5 ⟨rfl, hf5⟩
      have HF5 := Lib.hid (HF4.out.trans hf5 (U := []) (by simp) (by simp))
      clear hf5 HSN
      go_wp2
      go_roundw
      case rel => exact ⟨k + 1, by omega, by go_num, HF5.out⟩
      case measure => simp [intOf]; omega
    · obtain rfl : k = 4 := by omega
      go_wp2
      go_ret
      exact ⟨rfl, HF1.out.trans HF.out (by simp) (by simp)⟩
end Go.Proofs.Ytchhbmhnjknhaaa
