/- Contracts of slices.Clone over sessions, and of All. -/
import Derived.Test.YtefplgligmkbiaaBkClose
import Derived.Deep.RegionWith
import Derived.Lib.SliceRun
namespace Go.Proofs.Ytefplgligmkbiaa
open Go.RowKit

set_option maxHeartbeats 1000000 in
theorem cloneS_any (x : Addr) (n cap : Nat) (X : List Sn) (w : World) (h : SL w [] (some x) X) (hn : n = X.length) (hfit : n ≤ 100000) :
    Calls Try.prog 35 #[.slice (some x) n cap] w fun e w' => ∃ a2 cap2, e = .returned (.slice a2 n cap2) ∧ SOwn w' w.heap.size 56 [] a2 cap2 X ∧ Frm [] w w' := by
  have hq := fun (w : World) (a : Option Addr) (n c n' c' : Nat) => Lib.run_eql_slice_nil (P := Try.prog) w 23 56 a n c n' c' Try.underlying23
  obtain ⟨i0, hi, hz0, hz1, hz2⟩ := info_parts infoS1
  have HL := Lib.hid h; clear h
  have HN := Lib.hid hn; clear hn
  have HI := Lib.hid hi; clear hi
  have HZ0 := Lib.hid hz0; clear hz0
  have HZ1 := Lib.hid hz1; clear hz1
  have HZ2 := Lib.hid hz2; clear hz2
  have HLX : Hid ((snc X).length = n * 3) := Lib.hid (by rw [snc_length, HN.out])
  have hfit1 : 0 + n ≤ 1000000000 := by omega
  have HLIT : Hid (SOwn (w.alloc (.cells #[] 56)) w.heap.size 56 [] (some ⟨w.heap.size, 0, none⟩) 0 []) := Lib.hid ⟨World.ownsRow_lit w #[] 0 (Nat.le_refl _) (by unfold maxLen; omega) rfl, by simp, by simp⟩
  go_enter Try.func35, Try.ntmps35
  go_wp2_with (at_builtin; refine wpList_appS (by rfl) (.tmp 5) (.tmp 6) 23 rfl w.heap.size 56 i0 (.agg #[.int .u64 0, .int .u64 0, .int .u64 0]) 3 24 Try.underlying23 HI.out HZ0.out rfl (by decide) HZ1.out HZ2.out (by decide) (.slice (some ⟨w.heap.size, 0, none⟩) 0 0) 0 _ rfl HLIT.out.own _ n cap _ rfl (HL.out.vals.keep ((Frm.refl [] w).alloc _) (by simp)) HLX.out (snc_one _) (fun h => by cases h) hfit1 (by simp) ?_)
  intro a2 c2 w2 happ
  have g3 := HLIT.out.app (X := []) rfl HL.out.fits HN.out (by simp) happ
  have hf2 : Frm [] w w2 := ((Frm.refl [] w).alloc _).grown happ.grown (fun k hk => .inr (by cases hk; exact Nat.le_refl _))
  have ho := g3.1
  rw [List.nil_append] at ho
  have HO := Lib.hid ho
  have HF := Lib.hid hf2
  clear happ g3 hf2 ho
  go_wp2
  go_ret
  exact ⟨a2, c2, rfl, HO.out, HF.out⟩

set_option maxRecDepth 100000 in
set_option maxHeartbeats 2000000 in
theorem all_any {w : World} {B p last : Nat} {X Y : List Sn} (h : Bk w B p 63 last X Y) (n : Nat) (hn : n = X.length) :
    Calls Try.prog 23 #[.pointer (some ⟨p, 0, none⟩)] w fun e w' => ∃ a2 cap2, e = .returned (.tuple #[.int .u64 (last : Nat), .slice a2 n cap2]) ∧ SOwn w' w.heap.size 56 [] a2 cap2 X ∧ Frm [] w w' := by
  have c0 := h.c0
  have hn16 : n ≤ 16 := by rw [hn]; exact h.few
  have HSE := Lib.hid (fun (z : World) (hz : Frm [] w z) => sessions_any (h.keep hz (by simp)))
  have HCL := Lib.hid (fun (z : World) (hz : Frm [] w z) => cloneS_any ⟨p, 2, none⟩ n 16 X z ((h.keep hz (by simp)).sl (by simp)) hn (by omega))
  rw [← hn] at HSE
  have C0 := Lib.hid (fun (z : World) (hz : Frm [] w z) => (h.keep hz (by simp)).c0)
  clear h hn
  go_enter Try.func23, Try.ntmps23
  go_wp2
  have f00 : Frm [] w w.drew := (Frm.refl [] w).drew
  go_region_with (first
    | (go_at_call 33; (with_reducible refine (HSE.out _ f00).mono ?_); rintro e w1 ⟨rfl, hf1⟩; have T1 : Frm [] w w1 := f00.trans hf1 (U := []) (by simp) (by simp); clear hf1; have c1 := C0.out _ T1)
    | (go_at_call 35; (with_reducible refine (HCL.out _ T1).mono ?_); rintro e w2 ⟨a2, c2, rfl, ho2, hf2⟩; have T2 : Frm [] w w2 := T1.trans hf2 (U := []) (by simp) (by simp); have O2 : Hid (SOwn w2 w1.heap.size 56 [] a2 c2 X) := Lib.hid ho2; have S1 : Hid (w.heap.size ≤ w1.heap.size) := Lib.hid T1.size; clear ho2 hf2; have c2' := C0.out _ T2))
  all_goals
    go_wp2
    go_ret2
    refine ⟨a2, c2, rfl, ⟨⟨O2.out.own.1, ?_⟩, O2.out.fits, O2.out.away⟩, T2⟩
    rcases O2.out.own.2 with h | ⟨g, cp, cur, hv, hb, r⟩
    · exact .inl h
    · exact .inr ⟨g, cp, cur, hv, Nat.le_trans S1.out hb, r⟩
end Go.Proofs.Ytefplgligmkbiaa
