/- Contract of bytes.Equal. -/
import Derived.Test.YtecfoomjpjcldaaStr
import Derived.Test.YtecfoomjpjcldaaPkClone
namespace Go.Proofs.Ytecfoomjpjcldaa
open Go.RowKit
set_option maxRecDepth 100000

theorem bequal_any (a : Option Addr) (n c : Nat) (l : List Nat) (a' : Option Addr) (n' c' : Nat) (m : List Nat) (w : World) (hl : Bytes w a l) (hn : n = l.length) (hm : Bytes w a' m) (hn' : n' = m.length) :
    Calls Try.prog 60 #[.slice a n c, .slice a' n' c'] w fun e w' => e = .returned (.bool (decide (l = m))) ∧ w = w' := by
  have c1 : (convert 38 9 (.slice a n c)).run Try.prog w = .ok (.string (strOf l)) w := run_to_string (P := Try.prog) (e := 5) Try.underlying38 Try.underlying5 Try.underlying9 hl hn
  have c2 : (convert 38 9 (.slice a' n' c')).run Try.prog w = .ok (.string (strOf m)) w := run_to_string (P := Try.prog) (e := 5) Try.underlying38 Try.underlying5 Try.underlying9 hm hn'
  have HB : Hid (∀ b : Bool, (b = true ↔ strOf l = strOf m) → b = decide (l = m)) := Lib.hid fun b hb => by
    by_cases h : l = m
    · rw [decide_eq_true h]; exact hb.2 (by rw [h])
    · rw [decide_eq_false h]
      cases b
      · rfl
      · exact absurd (strOf_inj hl.1 hm.1 (hb.1 rfl)) h
  clear hl hm hn hn'
  generalize decide (l = m) = r at HB ⊢
  generalize strOf l = s at c1 HB
  generalize strOf m = t at c2 HB
  go_enter Try.func60, Try.ntmps60
  go_wp2
  go_ret
  have hb : (s.toList == t.toList) = true ↔ s = t := by
    refine ⟨fun h => ByteArray.ext (Array.toList_inj.1 (by have := eq_of_beq h; rwa [ByteArray.toList_eq, ByteArray.toList_eq] at this)), fun h => by rw [h]; exact beq_self_eq_true _⟩
  have hr := HB.out _ hb
  rw [← hr]
  exact ⟨rfl, rfl⟩
end Go.Proofs.Ytecfoomjpjcldaa
