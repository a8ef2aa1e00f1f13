/- Contract of Writer.Done: a row of its own with all that was put. -/
import Derived.Test.YtahhkffghhgojaaPkPut
namespace Go.Proofs.Ytahhkffghhgojaa
open Go.RowKit

theorem Frm.undrew {S : List Nat} {w w' : World} (h : Frm S w.drew w') : Frm S w w' := ⟨h.os, h.tape, h.output, h.size, h.block⟩

theorem done_nil (p : Nat) (w : World) (hp : Whole w p 57 #[.pointer none, .int .i64 0]) :
    Calls Try.prog 22 #[.pointer (some ⟨p, 0, none⟩)] w fun e w' => e = .returned (.slice none 0 0) ∧ w = w' := by
  have c0 := hp.cell 0
  simp at c0
  clear hp
  go_enter Try.func22, Try.ntmps22
  go_wp2
  go_ret
  exact ⟨rfl, rfl⟩

set_option maxRecDepth 100000 in
set_option maxHeartbeats 1000000 in
theorem done_on (B p r : Nat) (sa : Option Addr) (scap : Nat) (l : List Nat) (w : World) (h8 : ∀ c ∈ l, c < 256)
    (hp : Whole w p 57 #[.pointer (some ⟨r, 0, none⟩), .int .i64 (l.length : Nat)]) (hr : Whole w r 75 #[.slice sa l.length scap])
    (hown : w.ownsRow B 5 1 (.slice sa l.length scap) l.length (l.map u8v)) (hfit : l.length ≤ 140737488355328) :
    Calls Try.prog 22 #[.pointer (some ⟨p, 0, none⟩)] w fun e w' => Own w w' l e := by
  obtain ⟨hb, hnil⟩ := own_bytes hown h8
  have hcap : l.length ≤ scap := by
    rcases hown.2 with ⟨h, h0⟩ | ⟨g, cap, cur, hv, _, _, hnc, _⟩
    · omega
    · injection hv with _ _ h; omega
  have hcap63 : scap ≤ 9223372036854775807 := by
    rcases hown.2 with ⟨h, h0⟩ | ⟨g, cap, cur, hv, _, _, _, hm, _⟩
    · injection h with _ _ h; omega
    · injection hv with _ _ h; unfold maxLen at hm; omega
  have CL := Lib.hid (fun (w' : World) (hB : Bytes w' sa l) => clone_any sa l.length scap l w' hB rfl hnil hfit)
  obtain ⟨k, hk⟩ : ∃ k, k = l.length := ⟨_, rfl⟩
  rw [← hk] at hp hr hcap CL
  have c0 := hp.cell 0
  have c1 := hp.cell 1
  have cr := hr.cell 0
  simp at c0 c1 cr
  clear hp hr hown hnil hfit
  have HB := Lib.hid hb; clear hb
  have HK := Lib.hid hk; clear hk
  go_enter Try.func22, Try.ntmps22
  go_wp2
  go_still_tail 12, (by kernel_rfl)
  change wpList _ _ _ _ _ w.drew
  go_wp2_with fail
  refine (CL.out w.drew HB.out).mono ?_
  rintro e w' ⟨a', cap', rfl, ho, hf⟩
  have HO := Lib.hid ho; clear ho
  have HF := Lib.hid hf; clear hf
  clear HK
  go_wp2
  go_ret
  exact ⟨a', cap', rfl, HO.out, HF.out.undrew⟩

theorem done_any {w : World} {B p : Nat} {F : List Nat} {l : List Nat} (h : Wr w B p F l) (hfit : l.length ≤ 140737488355328) :
    Calls Try.prog 22 #[.pointer (some ⟨p, 0, none⟩)] w fun e w' => Own w w' l e := by
  obtain ⟨h8, hBp, ⟨rfl, rfl, hp⟩ | ⟨r, a, cap, hp, hr, hown, hBr, rfl⟩⟩ := h
  · exact (done_nil p w hp).mono fun e w' ⟨he, hw⟩ => ⟨none, 0, he, by subst hw; exact World.ownsRow_nil _ _ _ _, by subst hw; exact Frm.refl _ _⟩
  · exact done_on B p r a cap l w h8 hp hr hown hfit
end Go.Proofs.Ytahhkffghhgojaa
