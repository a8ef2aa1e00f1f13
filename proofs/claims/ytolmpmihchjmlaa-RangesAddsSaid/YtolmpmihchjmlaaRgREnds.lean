/- Contract of the document's ends. -/
import Derived.Test.YtolmpmihchjmlaaRgPut2
namespace Go.Proofs.Ytolmpmihchjmlaa
open Go.RowKit

def EndsTo (l : List Rg) (k x : Nat) : Prop := ∃ t, t < k ∧ (x = (l.getD t (0, 0)).1 ∨ x = (l.getD t (0, 0)).2)
def ERel (w : World) (l : List Rg) (n : Nat) (v i : Value) (wr : World) : Prop :=
  ∃ (k m cap : Nat) (a : Option Addr) (c : List Nat), k ≤ n ∧ i = .int .i64 k ∧ v = .slice a m cap ∧ Hid (m = c.length) ∧ Hid (UIn wr a cap c) ∧ Hid (Up c ∧ ∀ x, x ∈ c ↔ EndsTo l k x) ∧ m ≤ 2 * k ∧ Hid (Frm [] w wr)

set_option maxRecDepth 100000 in
set_option maxHeartbeats 4000000 in
theorem rends_any {w : World} {a : Option Addr} {l : List Rg} (h : Rr w a l) {n cap : Nat} (hn : n = l.length) (hsz : n ≤ 2000) :
    Calls Try.prog 60 #[.slice a n cap] w (GotU w (fun x => ∃ p ∈ l, x = p.1 ∨ x = p.2) (2 * n)) := by
  have HN := Lib.hid hn; clear hn
  have H := Lib.hid h; clear h
  go_enter Try.func60, Try.ntmps60
  go_wp2
  go_loopw [3, 4] (fun v i wr => ERel w l n v i wr) (fun _ i _ => n - (intOf i).toNat)
  case atStart => exact ⟨0, 0, 0, none, [], Nat.zero_le _, rfl, rfl, rfl, ⟨Uw.nil _ _, fun _ => rfl, by simp, by simp⟩, ⟨List.Pairwise.nil, fun x => ⟨fun h => by simp at h, fun ⟨t, ht, _⟩ => absurd ht (Nat.not_lt_zero _)⟩⟩, Nat.zero_le _, (Frm.refl _ _ : Frm [] w w)⟩
  case round =>
    obtain ⟨k, m, cp, ak, c, hk, rfl, rfl, HM, HU, HC, hm2, HF⟩ := hrel
    by_cases hlt : k < n
    · obtain ⟨b, off, rfl, hc⟩ := (H.out.keep0 HF.out).2 (by have := HN.out; omega)
      obtain ⟨d0, d1⟩ := hc k (by have := HN.out; omega)
      have bd := getD_bd H.out.1 k
      obtain ⟨x0, hx0⟩ : ∃ y, y = (l.getD k (0, 0)).1 := ⟨_, rfl⟩
      obtain ⟨y0, hy0⟩ : ∃ y, y = (l.getD k (0, 0)).2 := ⟨_, rfl⟩
      rw [← hx0] at d0 bd
      rw [← hy0] at d1 bd
      have HX := Lib.hid hx0; clear hx0
      have HY := Lib.hid hy0; clear hy0
      have l0 := block_lt_of_cell d0
      have l1 := block_lt_of_cell d1
      have hlt' : (k : Int) < (n : Int) := by omega
      clear hc
      have P1 := Lib.hid (fun (W : World) (hf : Frm [] wr W) => putU_any (HU.out.keep hf) HC.out.1 HM.out (by omega) bd.1)
      have P2 := Lib.hid (fun (W : World) (a1 : Option Addr) (c1 m1 : Nat) (l1 : List Nat) (hu : UIn W a1 c1 l1) (hup : Up l1) (hm : m1 = l1.length) (hs : l1.length ≤ m + 1) => putU_any hu hup hm (by omega) bd.2)
      clear bd
      go_wp2
      go_region_held3 (fun w' => w'.cell? ⟨b, off + k * 2, none⟩ = some (.int .u64 (x0 : Nat)) ∧ w'.cell? ⟨b, off + k * 2 + 1, none⟩ = some (.int .u64 (y0 : Nat))) (first | go_keep | (refine ⟨?_, ?_⟩ <;> first | (rw [hf2.out.cell (by simpa using Nat.lt_of_lt_of_le ‹_› hf1.out.size) (by simp), hf1.out.cell (by simpa using ‹_›) (by simp)]; assumption) | (rw [hf1.out.cell (by simpa using ‹_›) (by simp)]; assumption))) ((first
        | (go_at_call 69; ((with_reducible refine (P1.out _ (Frm.drew1 wr)).mono ?_)); rintro e w1 ⟨a1, m1, c1, l1, rfl, hm1, hu1, hs1, hle1, hf1⟩)
        | (go_at_call 69; ((with_reducible refine (P2.out _ a1 c1 m1 l1 hu1.out hs1.out.1 hm1.out hle1).mono ?_)); rintro e w2 ⟨a2, m2, c2, l2, rfl, hm2', hu2, hs2, hle2, hf2⟩)))
      have REL : Hid (ERel w l n (.slice a2 m2 c2) (.int .i64 ((k + 1 : Nat) : Int)) w2) := by
        refine ⟨k + 1, m2, c2, a2, l2, by omega, rfl, rfl, hm2', hu2, ⟨hs2.out.1, fun x => ?_⟩, ?_, HF.out.trans (((Frm.drew1 wr).trans hf1.out (U := []) (by simp) (by simp)).trans hf2.out (U := []) (by simp) (by simp)) (by simp) (by simp)⟩
        · rw [hs2.out.2 x, hs1.out.2 x, HC.out.2 x]
          constructor
          · rintro ((⟨t, ht, h⟩ | h) | h)
            · exact ⟨t, by omega, h⟩
            · exact ⟨k, by omega, .inl (by rw [h, HX.out])⟩
            · exact ⟨k, by omega, .inr (by rw [h, HY.out])⟩
          · rintro ⟨t, ht, h⟩
            rcases Nat.lt_or_eq_of_le (Nat.le_of_lt_succ ht) with h1 | rfl
            · exact .inl (.inl ⟨t, h1, h⟩)
            · rcases h with h | h
              · exact .inl (.inr (by rw [h, HX.out]))
              · exact .inr (by rw [h, HY.out])
        · have := hm2'.out; have := hm1.out; omega
      clear hm1 hu1 hs1 hle1 hf1 hm2' hu2 hs2 hle2 hf2 P1 P2 d0 d1
      go_wp2
      go_roundw
      case rel => exact REL.out
      case measure => simp [intOf]; omega
    · obtain rfl : k = n := by omega
      have FIN : Hid (GotU w (fun x => ∃ p ∈ l, x = p.1 ∨ x = p.2) (2 * k) (.returned (.slice ak m cp)) wr) := by
        refine ⟨ak, m, cp, c, rfl, HM, HU, ⟨HC.out.1, fun x => ?_⟩, by have := HM.out; omega, HF⟩
        rw [HC.out.2 x]
        constructor
        · rintro ⟨t, ht, h⟩
          have e : l.getD t (0, 0) = l[t]'(by have := HN.out; omega) := by have := HN.out; simp [show t < l.length by omega]
          rw [e] at h
          exact ⟨_, List.getElem_mem _, h⟩
        · rintro ⟨p, hp, h⟩
          obtain ⟨t, ht, rfl⟩ := List.getElem_of_mem hp
          exact ⟨t, by have := HN.out; omega, by simpa [ht] using h⟩
      go_wp2
      go_ret
      exact FIN.out
end Go.Proofs.Ytolmpmihchjmlaa
