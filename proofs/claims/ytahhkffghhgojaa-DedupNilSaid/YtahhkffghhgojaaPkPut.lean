/- Writer: what a Writer reads as (Wr); contract of Writer.put: the bytes are put behind. -/
import Derived.Test.YtahhkffghhgojaaApp
import Derived.Test.YtahhkffghhgojaaPkDigits
import Derived.Deep.RegionHeld3
import Derived.Deep.QuietTactic
import Derived.BigQuiet
import Derived.BigRegion
import Derived.StillTailTactics
namespace Go.Proofs.Ytahhkffghhgojaa
open Go.RowKit

/-- The Writer at block p has put the bytes l; its blocks, all from B on, are F. -/
def Wr (w : World) (B p : Nat) (F : List Nat) (l : List Nat) : Prop :=
  (∀ c ∈ l, c < 256) ∧ B ≤ p ∧
  ((l = [] ∧ F = [p] ∧ Whole w p 57 #[.pointer none, .int .i64 0]) ∨
   ∃ r a cap, Whole w p 57 #[.pointer (some ⟨r, 0, none⟩), .int .i64 (l.length : Nat)] ∧ Whole w r 75 #[.slice a l.length cap] ∧
     w.ownsRow B 5 1 (.slice a l.length cap) l.length (l.map u8v) ∧ B ≤ r ∧ F = p :: r :: (Value.slice a l.length cap).ownBlock.toList)

/-- What putting the bytes b leaves. -/
def Put (w w' : World) (B p : Nat) (F : List Nat) (l b : List Nat) : Prop :=
  ∃ F', Wr w' B p F' (l ++ b) ∧ Frm F w w' ∧ ∀ x ∈ F', x ∈ F ∨ w.heap.size ≤ x
def PutEnd (w : World) (B p : Nat) (F : List Nat) (l b : List Nat) (e : Ending) (w' : World) : Prop := e = .returned (.tuple #[]) ∧ Put w w' B p F l b

/-- Behind the append: the two stores that are left of put. -/
theorem put_end {B p r : Nat} {sa : Option Addr} {scap k n : Nat} {l b : List Nat} {w w1 : World} {m : Nat} {a' : Option Addr} {cap' : Nat} (hk : k = l.length) (hn : n = b.length) (h8 : ∀ c ∈ l, c < 256) (h8b : ∀ c ∈ b, c < 256)
    (hp : Whole w p 57 #[.pointer (some ⟨r, 0, none⟩), .int .i64 (k : Nat)]) (hr : Whole w r 75 #[.slice sa k scap])
    (hown : w.ownsRow B 5 1 (.slice sa k scap) k (l.map u8v)) (hBr : B ≤ r) (hBp : B ≤ p)
    (h : App (w.drewN m) w1 B 5 (.slice sa k scap) k n (l.map u8v) b a' cap') :
    Put w ((w1.setCell ⟨r, 0, none⟩ (.slice a' (k + n) cap')).setCell ⟨p, 1, none⟩ (.int .i64 ((k : Int) + n))) B p (p :: r :: (Value.slice sa k scap).ownBlock.toList) l b := by
  subst hk; subst hn
  have hpr : p ≠ r := hp.ne hr (by decide)
  have ho : ∀ g, (Value.slice sa l.length scap).ownBlock = some g → g ≠ p ∧ g ≠ r := fun g hg =>
    ⟨fun e => own_ne hown hp (by decide) (e ▸ hg), fun e => own_ne hown hr (by decide) (e ▸ hg)⟩
  have hf1 : Frm ((Value.slice sa l.length scap).ownBlock.toList) w w1 := ((Frm.refl _ w).drewN m).grown h.grown (fun k hk => .inl (by rw [hk]; simp))
  have hp1 : Whole w1 p _ _ := hf1.whole hp (by
    intro hm
    cases hg : (Value.slice sa l.length scap).ownBlock with
    | none => rw [hg] at hm; simp at hm
    | some g => rw [hg] at hm; simp at hm; exact (ho g hg).1 hm.symm)
  have hr1 : Whole w1 r _ _ := hf1.whole hr (by
    intro hm
    cases hg : (Value.slice sa l.length scap).ownBlock with
    | none => rw [hg] at hm; simp at hm
    | some g => rw [hg] at hm; simp at hm; exact (ho g hg).2 hm.symm)
  have hlen : (l ++ b).length = l.length + b.length := List.length_append
  have hp2 := (hp1.other (p := ⟨r, 0, none⟩) hpr (.slice a' (l.length + b.length) cap')).put 1 (.int .i64 ((l.length : Int) + b.length))
  have hr2 := (hr1.put 0 (.slice a' (l.length + b.length) cap')).other (p := ⟨p, 1, none⟩) (Ne.symm hpr) (.int .i64 ((l.length : Int) + b.length))
  have own1 := h.own
  have op1 := own_ne own1 hp1 (by decide)
  have or1 := own_ne own1 hr1 (by decide)
  have own2 := ownsRow_setCell_other own1 (a := ⟨r, 0, none⟩) or1 (.slice a' (l.length + b.length) cap')
  have own3 := ownsRow_setCell_other own2 (a := ⟨p, 1, none⟩) op1 (.int .i64 ((l.length : Int) + b.length))
  refine ⟨p :: r :: (Value.slice a' (l.length + b.length) cap').ownBlock.toList, ⟨?_, hBp, .inr ⟨r, a', cap', ?_, ?_, ?_, hBr, ?_⟩⟩, ?_, ?_⟩
  · intro c hc
    rcases List.mem_append.1 hc with h | h
    · exact h8 c h
    · exact h8b c h
  · rw [hlen]; simpa using hp2
  · rw [hlen]; simpa using hr2
  · rw [hlen, List.map_append]; exact own3
  · rw [hlen]
  · refine ((hf1.weak (U := p :: r :: (Value.slice sa l.length scap).ownBlock.toList) ?_).setCell (.inl (by simp)) _).setCell (.inl (by simp)) _
    intro x hx; left; simp [hx]
  · intro x hx
    simp only [List.mem_cons] at hx
    rcases hx with rfl | rfl | hx
    · left; simp
    · left; simp
    · rcases h.place with hpl | hpl
      · left; rw [hpl] at hx; simp [hx]
      · right
        rw [hpl] at hx
        simp at hx
        omega

set_option maxHeartbeats 1000000 in
/-- put where the row is there. -/
theorem put_on (B p r : Nat) (sa : Option Addr) (scap : Nat) (l : List Nat) (a : Option Addr) (n cap : Nat) (b : List Nat) (w : World) (h8 : ∀ c ∈ l, c < 256)
    (hp : Whole w p 57 #[.pointer (some ⟨r, 0, none⟩), .int .i64 (l.length : Nat)]) (hr : Whole w r 75 #[.slice sa l.length scap])
    (hown : w.ownsRow B 5 1 (.slice sa l.length scap) l.length (l.map u8v)) (hBr : B ≤ r) (hBp : B ≤ p)
    (hb : Bytes w a b) (hn : n = b.length) (hnil : a = none → cap = 0) (hfit : l.length + n ≤ 140737488355328) :
    Calls Try.prog 65 #[.pointer (some ⟨p, 0, none⟩), .slice a n cap] w (PutEnd w B p (p :: r :: (Value.slice sa l.length scap).ownBlock.toList) l b) := by
  have hnp : p ≠ r := hp.ne hr (by decide)
  have hBw : B ≤ w.heap.size := Nat.le_of_lt (Nat.lt_of_le_of_lt hBp hp.lt)
  obtain ⟨i0, hi, hz0, hz1, hz2⟩ := info_parts Try.info5
  obtain ⟨k, hk⟩ : ∃ k, k = l.length := ⟨_, rfl⟩
  rw [← hk] at hp hr hown hfit ⊢
  have keep : ∀ (m : Nat) (w1 : World), (w.drewN m).grownBy w1 (Value.slice sa k scap).ownBlock → Whole w1 p 57 #[.pointer (some ⟨r, 0, none⟩), .int .i64 (k : Nat)] ∧ Whole w1 r 75 #[.slice sa k scap] := fun m w1 hg =>
    ⟨(hg.block p hp.lt (fun e => own_ne hown hp (by decide) e.symm)).trans hp, (hg.block r hr.lt (fun e => own_ne hown hr (by decide) e.symm)).trans hr⟩
  have KEEP := Lib.hid keep; clear keep
  have c0 := hp.cell 0
  have c1 := hp.cell 1
  have cr := hr.cell 0
  have fp0 := hp.free 0
  have fp1 := hp.free 1
  have fr := hr.free 0
  simp at c0 c1 cr
  have hlt : decide ((k : Int) < (k : Int)) = false := by simp
  have h8b := hb.1
  have FIN := Lib.hid (fun (m : Nat) (w1 : World) (a' : Option Addr) (cap' : Nat) => put_end (B := B) (p := p) (r := r) (sa := sa) (scap := scap) (k := k) (n := n) (l := l) (b := b) (w := w) (w1 := w1) (m := m) (a' := a') (cap' := cap') hk hn h8 h8b hp hr hown hBr hBp)
  clear h8 h8b hp hr
  have HO := Lib.hid hown; clear hown
  have HB := Lib.hid hb; clear hb
  have HN := Lib.hid hn; clear hn
  have HK := Lib.hid hk; clear hk
  go_enter Try.func65, Try.ntmps65
  go_wp2
  go_quiet (fail)
  go_wp2
  go_region_law ((refine step_app rfl (.tmp 43) (.tmp 44) 47 rfl B 5 i0 Try.underlying47 hi hz0 hz1 hz2 (.slice sa k scap) k _ rfl HO.out _ _ _ b rfl ?_ HN.out hnil hfit ?_ ?_; (exact HB.out); (exact hBw); intro a' cap' w1 happ; have HA := Lib.hid happ; obtain ⟨hp1, hr1⟩ := KEEP.out _ _ happ.grown; have q0 := hp1.cell 0; have q1 := hr1.cell 0; have q2 := hr1.free 0; simp at q0 q1; clear happ hp1 hr1))
  all_goals
    obtain ⟨hp1, hr1⟩ := KEEP.out _ _ HA.out.grown
    have hp2 := (hp1.other (p := ⟨r, 0, none⟩) hnp (.slice a' (k + n) cap'))
    have hr2 := (hr1.put 0 (.slice a' (k + n) cap'))
    have s0 := hp2.cell 0
    have s1 := hr2.cell 0
    have s2 := hp2.cell 1
    have s3 := hp2.free 1
    simp at s0 s1 s2
    clear hp1 hr1 hp2 hr2
    go_wp2
    go_end0
    exact ⟨rfl, FIN.out _ _ _ _ HA.out⟩
end Go.Proofs.Ytahhkffghhgojaa
