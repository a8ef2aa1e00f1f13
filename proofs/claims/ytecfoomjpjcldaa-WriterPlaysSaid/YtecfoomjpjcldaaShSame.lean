/- Contract of the reference's SameItems, at lists that are the same. -/
import Derived.Test.YtecfoomjpjcldaaIt
import Derived.Test.YtecfoomjpjcldaaStr
import Derived.WalkSpells
import Derived.Outline
import Derived.Deep.QuietTactic
import Derived.BigQuiet
namespace Go.Proofs.Ytecfoomjpjcldaa
open Go.RowKit
set_option maxRecDepth 100000

theorem its_at {X Y : List Ix} (h : its X = its Y) (i : Nat) : (X.getD i default).t = (Y.getD i default).t := by
  have := congrArg (fun l => l[i]?) h
  simp only [its, List.getElem?_map] at this
  simp only [List.getD]
  cases hX : X[i]? <;> cases hY : Y[i]? <;> rw [hX, hY] at this <;> simp at this ⊢
  exact this
theorem its_len {X Y : List Ix} (h : its X = its Y) : X.length = Y.length := by
  have := congrArg List.length h
  simpa [its] using this

set_option maxHeartbeats 4000000 in
theorem sameItems_true (a1 a2 : Option Addr) (n c1 c2 : Nat) (X Y : List Ix) (F1 F2 : List Nat) (w : World) (h1 : IL w F1 a1 X) (h2 : IL w F2 a2 Y) (hn : n = X.length) (he : its X = its Y) (hfit : n ≤ 9223372036854775807) :
    Calls Try.prog 32 #[.slice a1 n c1, .slice a2 n c2] w fun e w' => e = .returned (.bool true) ∧ Frm [] w w' := by
  have H1 := Lib.hid h1; clear h1
  have H2 := Lib.hid h2; clear h2
  have HN := Lib.hid hn
  have HM : Hid (n = Y.length) := by rw [hn]; exact Lib.hid (its_len he)
  have HE := Lib.hid (fun i => its_at he i)
  clear hn he
  go_enter Try.func32, Try.ntmps32
  go_wp2
  go_loopw [5] (fun u wr => ∃ k q : Nat, k ≤ n ∧ u = .int .i64 (k : Nat) ∧ Hid (wr = w.drewN q)) (fun u _ => n - (intOf u).toNat)
  case atStart => exact ⟨0, 0, Nat.zero_le _, rfl, Lib.hid rfl⟩
  case round =>
    obtain ⟨k, q, hk, rfl, HW⟩ := hrel
    by_cases hlt : k < n
    · have hfr : Frm [] w wr := by rw [HW.out]; exact (Frm.refl _ _).drewN q
      obtain ⟨b1, o1, rfl, p0, p1, ok1⟩ := (H1.out.keep hfr (F' := F1) (by simp) (fun x h => .inl h)).at (i := k) (by have := HN.out; omega)
      obtain ⟨b2, o2, rfl, q0, q1, ok2⟩ := (H2.out.keep hfr (F' := F2) (by simp) (fun x h => .inl h)).at (i := k) (by have := HM.out; omega)
      have hE := HE.out k
      have hb1 := ok1.bytes
      have hb2 := ok2.bytes
      rw [← hE] at q0 q1 hb2
      generalize (X.getD k default) = x at p0 p1 q0 q1 hb1 hb2
      generalize (Y.getD k default).a = ya at q1 hb2
      generalize (Y.getD k default).c = yc at q1
      obtain ⟨⟨xk, xv⟩, xa, xc⟩ := x
      simp only at p0 p1 q0 q1 hb1 hb2
      obtain ⟨m, hm⟩ : ∃ m, m = xv.length := ⟨_, rfl⟩
      rw [← hm] at p1 q1
      obtain ⟨st, hst⟩ : ∃ st, st = strOf xv := ⟨_, rfl⟩
      have v1 : ∀ d, (convert 38 9 (.slice xa m xc)).run Try.prog (wr.drewN d) = .ok (.string st) (wr.drewN d) := fun d => by
        rw [hst]; exact run_to_string (P := Try.prog) (e := 5) Try.underlying38 Try.underlying5 Try.underlying9 (((Frm.refl [] wr).drewN d).bytes hb1 (by simp)) hm
      have v2 : ∀ d, (convert 38 9 (.slice ya m yc)).run Try.prog (wr.drewN d) = .ok (.string st) (wr.drewN d) := fun d => by
        rw [hst]; exact run_to_string (P := Try.prog) (e := 5) Try.underlying38 Try.underlying5 Try.underlying9 (((Frm.refl [] wr).drewN d).bytes hb2 (by simp)) hm
      have v10 := v1 0
      have v20 := v2 0
      rw [show wr.drewN 0 = wr from rfl] at v10 v20
      clear hE hb1 hb2 ok1 ok2 hm hfr hst
      go_wp2
      go_quiet (fail)
      have HQ : Hid (wr.drewN nq = w.drewN (q + nq)) := Lib.hid (by rw [HW.out]; simp [World.drewN, Nat.add_assoc])
      go_wp2
      go_roundw
      case rel => exact ⟨k + 1, q + nq, by omega, by go_num, HQ⟩
      case measure => simp [intOf]; omega
    · go_wp2
      go_ret
      exact ⟨rfl, by rw [HW.out]; exact (Frm.refl _ _).drewN q⟩
end Go.Proofs.Ytecfoomjpjcldaa
