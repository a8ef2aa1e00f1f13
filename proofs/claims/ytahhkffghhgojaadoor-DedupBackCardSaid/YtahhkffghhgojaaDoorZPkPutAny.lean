/- Contract of Writer.put, whether or not something was put ahead. -/
import Derived.Test.YtahhkffghhgojaaDoorMA
namespace Go.Proofs.YtahhkffghhgojaaDoor
open Go.RowKit

set_option maxHeartbeats 1000000 in
/-- put where nothing was put. -/
theorem put_off (B p : Nat) (a : Option Addr) (n cap : Nat) (b : List Nat) (w : World)
    (hp : Whole w p 70 #[.pointer none, .int .i64 0]) (hBp : B ≤ p)
    (hb : Bytes w a b) (hap : b ≠ [] → ∀ x, a = some x → x.block ≠ p) (hn : n = b.length) (hnil : a = none → cap = 0) (hfit : n ≤ 140737488355328) :
    Calls Tryd.prog 78 #[.pointer (some ⟨p, 0, none⟩), .slice a n cap] w (PutEnd w B p [p] [] b) := by
  have hBw : B ≤ w.heap.size := Nat.le_of_lt (Nat.lt_of_le_of_lt hBp hp.lt)
  have hlt := hp.lt
  obtain ⟨i0, hi, hz0, hz1, hz2⟩ := info_parts Tryd.info5
  have c0 := hp.cell 0
  have f0 := hp.free 0
  simp at c0
  have HP := Lib.hid hp; clear hp
  have HB := Lib.hid hb; clear hb
  have HN := Lib.hid hn; clear hn
  have HA := Lib.hid hap; clear hap
  go_enter Tryd.func78, Tryd.ntmps78
  go_wp2
  go_quiet (fail)
  go_wp2_with fail
  refine (done_nil p _ (by exact HP.out)).mono ?_
  rintro e w' ⟨rfl, rfl⟩
  clear c0 f0
  have HP2 := ((show Whole (w.drewN nq) p _ _ from HP.out).alloc (.cells #[.slice none 0 0] 97))
  have HR2 := Whole.made (w.drewN nq) 97 #[.slice none 0 0]
  have HF2 : Frm [p] w ((w.drewN nq).alloc (.cells #[.slice none 0 0] 97)) := ((Frm.refl [p] w).drewN nq).alloc _
  have k0 := HP2.cell 0
  have k1 := HP2.free 0
  simp at k0
  have hpr : p ≠ w.heap.size := by omega
  have HP3 := Lib.hid (HP2.put 0 (.pointer (some ⟨w.heap.size, 0, none⟩))); clear HP2
  have HR3 := Lib.hid (HR2.other (p := ⟨p, 0, none⟩) (by exact Ne.symm hpr) (.pointer (some ⟨w.heap.size, 0, none⟩))); clear HR2
  have HF3 := Lib.hid (HF2.setCell (p := ⟨p, 0, none⟩) (.inl (by simp)) (.pointer (some ⟨w.heap.size, 0, none⟩))); clear HF2
  go_wp2
  clear k0 k1
  obtain ⟨r, hr⟩ : ∃ r, r = w.heap.size := ⟨_, rfl⟩
  rw [← hr] at HP3 HR3 HF3 hpr ⊢
  obtain ⟨w3, hw3⟩ : ∃ w3, w3 = ((w.drewN nq).alloc (Obj.cells #[Value.slice none 0 0] 97)).setCell ⟨p, 0, none⟩ (Value.pointer (some ⟨r, 0, none⟩)) := ⟨_, rfl⟩
  rw [← hw3] at HP3 HF3 ⊢
  replace HR3 : Hid (Whole w3 r 97 #[.slice none 0 0]) := by rw [hw3]; simpa [← hr] using HR3
  have hBw3 : B ≤ w3.heap.size := Nat.le_trans hBw HF3.out.size
  have hBr : B ≤ r := by omega
  have HB3 : Hid (Bytes w3 a b) := HF3.out.bytes' HB.out (fun hne x hx => by have := HA.out hne x hx; simpa using this)
  have h8b := HB.out.1
  have hp3 := HP3.out
  have hr3 := HR3.out
  simp at hp3
  have FIN := Lib.hid (fun (m : Nat) (w1 : World) (a' : Option Addr) (cap' : Nat) => put_end (B := B) (p := p) (r := r) (sa := none) (scap := 0) (k := 0) (n := n) (l := []) (b := b) (w := w3) (w1 := w1) (m := m) (a' := a') (cap' := cap') rfl HN.out (by simp) h8b hp3 hr3 (World.ownsRow_nil _ _ _ _) hBr hBp)
  have keep : ∀ (m : Nat) (w1 : World), (w3.drewN m).grownBy w1 none → Whole w1 p 70 #[.pointer (some ⟨r, 0, none⟩), .int .i64 0] ∧ Whole w1 r 97 #[.slice none 0 0] := fun m w1 hg =>
    ⟨(hg.block p hp3.lt (by simp)).trans hp3, (hg.block r hr3.lt (by simp)).trans hr3⟩
  have KEEP := Lib.hid keep; clear keep
  have END : Hid (∀ w', Put w3 w' B p (p :: r :: (Value.slice none 0 0).ownBlock.toList) [] b → Put w w' B p [p] [] b) := by
    rintro w' ⟨F', hw, hf, hF⟩
    refine ⟨F', hw, HF3.out.trans hf (by simp) ?_, fun x hx => ?_⟩
    · intro x hx
      simp [Value.ownBlock] at hx
      rcases hx with rfl | rfl
      · left; simp
      · right; omega
    · rcases hF x hx with h | h
      · simp [Value.ownBlock] at h
        rcases h with rfl | rfl
        · left; simp
        · right; omega
      · right; have := HF3.out.size; omega
  have c0 := hp3.cell 0
  have c1 := hp3.cell 1
  have cr := hr3.cell 0
  have fp0 := hp3.free 0
  have fp1 := hp3.free 1
  have fr := hr3.free 0
  simp at c0 c1 cr
  clear hp3 hr3 HP3 HR3 HF3 h8b HB HA
  have HR := Lib.hid hr; clear hr
  have HW := Lib.hid hw3; clear hw3
  go_region_law ((refine step_app rfl (.tmp 43) (.tmp 44) 22 rfl B 5 i0 Tryd.underlying22 hi hz0 hz1 hz2 (.slice none 0 0) 0 [] rfl (World.ownsRow_nil _ _ _ _) _ _ _ b rfl ?_ HN.out hnil ?_ ?_ ?_; (exact HB3.out); (omega); (exact hBw3); intro a' cap' w1 happ; have HA := Lib.hid happ; obtain ⟨hp1, hr1⟩ := KEEP.out _ _ happ.grown; have q0 := hp1.cell 0; have q1 := hr1.cell 0; have q2 := hr1.free 0; simp at q0 q1; clear happ hp1 hr1))
  all_goals
    obtain ⟨hp1, hr1⟩ := KEEP.out _ _ HA.out.grown
    have hp2 := (hp1.other (p := ⟨r, 0, none⟩) hpr (.slice a' (0 + n) cap'))
    have hr2 := (hr1.put 0 (.slice a' (0 + n) cap'))
    have s0 := hp2.cell 0
    have s1 := hr2.cell 0
    have s2 := hp2.cell 1
    have s3 := hp2.free 1
    simp at s0 s1 s2 s3
    clear hp1 hr1 hp2 hr2
    go_wp2
    go_end0
    have := END.out _ (FIN.out _ _ _ _ HA.out)
    simp at this
    exact ⟨rfl, this⟩

theorem put_any {w : World} {B p : Nat} {F : List Nat} {l : List Nat} {a : Option Addr} {n cap : Nat} {b : List Nat} (h : Wr w B p F l)
    (hb : Bytes w a b) (hap : b ≠ [] → ∀ x, a = some x → x.block ≠ p) (hn : n = b.length) (hnil : a = none → cap = 0) (hfit : l.length + n ≤ 140737488355328) :
    Calls Tryd.prog 78 #[.pointer (some ⟨p, 0, none⟩), .slice a n cap] w (PutEnd w B p F l b) := by
  obtain ⟨h8, hBp, ⟨rfl, rfl, hp⟩ | ⟨r, sa, scap, hp, hr, hown, hBr, rfl⟩⟩ := h
  · exact put_off B p a n cap b w hp hBp hb hap hn hnil (by simp at hfit; exact hfit)
  · exact put_on B p r sa scap l a n cap b w h8 hp hr hown hBr hBp hb hn hnil hfit
end Go.Proofs.YtahhkffghhgojaaDoor
