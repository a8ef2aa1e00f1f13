/- Contract of lay: bytes behind all, not sure. -/
import Derived.Test.YtibaloloheakpaaDkCut
namespace Go.Proofs.Ytibaloloheakpaa
open Go.RowKit

/-- Behind the append: the two stores that are left of lay. -/
theorem lay_end {w w1 : World} {B p r : Nat} {a : Option Addr} {cap : Nat} {l b : List Nat} {s room m k n : Nat} {a' : Option Addr} {cap' : Nat} (h : DkOn w B p r a cap l s room)
    (hs : (∀ c ∈ l, c < 256) ∧ B ≤ p ∧ s ≤ l.length ∧ l.length ≤ room ∧ room ≤ 16777216) (hk : k = l.length) (hn : n = b.length) (h8b : ∀ c ∈ b, c < 256) (hfit : k + n ≤ room)
    (hA : HApp (w.drewN m) w1 B 5 a l b a' cap') :
    CutTo w ((w1.setCell ⟨r, 0, none⟩ (.slice a' (k + n) cap')).setCell ⟨p, 1, none⟩ (.int .i64 ((k : Int) + n))) B p (p :: r :: blk a) (l ++ b) s room := by
  subst hk; subst hn
  have hpr : p ≠ r := h.disk.ne h.row (by decide)
  have hp1 := (show Frm (blk a) w w1 from ⟨hA.frm.os, hA.frm.tape, hA.frm.output, hA.frm.size, hA.frm.block⟩)
  have hpw := hp1.whole h.disk (hd_ne h.head h.disk (by decide))
  have hrw := hp1.whole h.row (hd_ne h.head h.row (by decide))
  have hp2 := (hpw.other (p := ⟨r, 0, none⟩) hpr (.slice a' (l.length + b.length) cap')).put 1 (.int .i64 ((l.length : Int) + b.length))
  have hr2 := (hrw.put 0 (.slice a' (l.length + b.length) cap')).other (p := ⟨p, 1, none⟩) (Ne.symm hpr) (.int .i64 ((l.length : Int) + b.length))
  have hlen : (l ++ b).length = l.length + b.length := List.length_append
  have hf : Frm [p, r] w1 ((w1.setCell ⟨r, 0, none⟩ (.slice a' (l.length + b.length) cap')).setCell ⟨p, 1, none⟩ (.int .i64 ((l.length : Int) + b.length))) :=
    ((Frm.refl _ w1).setCell (.inl (by simp)) _).setCell (.inl (by simp)) _
  have n1 := hd_ne hA.head hpw (by decide)
  have n2 := hd_ne hA.head hrw (by decide)
  refine ⟨r, a', cap', ⟨?_, ?_, hA.head.keep hf ?_, h.hr⟩, ⟨?_, hs.2.1, by omega, by omega, hs.2.2.2.2⟩, hp1.trans hf ?_ ?_, ?_⟩
  · rw [hlen]; simpa using hp2
  · rw [hlen]; simpa using hr2
  · intro g hg hm
    simp at hm
    rcases hm with rfl | rfl
    · exact n1 hg
    · exact n2 hg
  · intro c hc
    rcases List.mem_append.1 hc with h1 | h1
    · exact hs.1 c h1
    · exact h8b c h1
  · intro x hx; simp [hx]
  · intro x hx; left; simp at hx; rcases hx with rfl | rfl <;> simp
  · intro x hx
    simp only [List.mem_cons] at hx
    rcases hx with rfl | rfl | hx
    · simp
    · simp
    · rcases hA.place x hx with h1 | h1
      · left; simp [h1]
      · right; simpa using h1

set_option maxHeartbeats 1000000 in
theorem lay_on (B p r : Nat) (a : Option Addr) (cap : Nat) (l : List Nat) (s room : Nat) (ad : Option Addr) (n c : Nat) (b : List Nat) (w : World) (h : DkOn w B p r a cap l s room)
    (hs : (∀ c ∈ l, c < 256) ∧ B ≤ p ∧ s ≤ l.length ∧ l.length ≤ room ∧ room ≤ 16777216) (hb : Bytes w ad b) (hn : n = b.length) (hnil : ad = none → c = 0) (hfit : l.length + b.length ≤ room) :
    Calls Try.prog 18 #[.pointer (some ⟨p, 0, none⟩), .slice ad n c] w (CutEnd w B p (p :: r :: blk a) (l ++ b) s room) := by
  have hpr : p ≠ r := h.disk.ne h.row (by decide)
  have hBw : B ≤ w.heap.size := Nat.le_of_lt (Nat.lt_of_le_of_lt h.hr h.row.lt)
  obtain ⟨i0, hi, hz0, hz1, hz2⟩ := info_parts Try.info5
  obtain ⟨k, hk⟩ : ∃ k, k = l.length := ⟨_, rfl⟩
  have hp := h.disk
  have hr := h.row
  rw [← hk] at hp hr
  have hkn : k + n ≤ 16777216 := by omega
  have keep : ∀ (m : Nat) (w1 : World), Frm (blk a) (w.drewN m) w1 → Whole w1 p _ _ ∧ Whole w1 r _ _ := fun m w1 hf =>
    ⟨hf.whole (w := w.drewN m) (by exact hp) (hd_ne h.head hp (by decide)), hf.whole (w := w.drewN m) (by exact hr) (hd_ne h.head hr (by decide))⟩
  have KEEP := Lib.hid keep; clear keep
  have c0 := hp.cell 0
  have c1 := hp.cell 1
  have cr := hr.cell 0
  have fp0 := hp.free 0
  have fp1 := hp.free 1
  have fr := hr.free 0
  simp at c0 c1 cr
  have hlt : decide ((k : Int) < (k : Int)) = false := by simp
  have FIN := Lib.hid (fun (m : Nat) (w1 : World) (a' : Option Addr) (cap' : Nat) => lay_end (w := w) (w1 := w1) (B := B) (p := p) (r := r) (a := a) (cap := cap) (l := l) (b := b) (s := s) (room := room) (m := m) (k := k) (n := n) (a' := a') (cap' := cap') h hs hk hn hb.1 (by omega))
  have HD := Lib.hid h.head; clear h hp hr hs
  have HB := Lib.hid hb; clear hb
  have HN := Lib.hid hn; clear hn
  have HK := Lib.hid hk; clear hk
  go_enter Try.func18, Try.ntmps18
  go_wp2
  go_quiet (fail)
  go_wp2
  go_region_law ((refine step_happ rfl (.tmp 40) (.tmp 41) 29 rfl B 5 i0 Try.underlying29 hi hz0 hz1 hz2 a k cap l rfl HD.out HK.out _ _ _ b rfl ?_ HN.out hnil ?_ ?_ ?_; (exact HB.out); (omega); (exact hBw); intro a' cap' w1 happ; have HA := Lib.hid happ; obtain ⟨hp1, hr1⟩ := KEEP.out _ _ happ.frm; have q0 := hp1.cell 0; have q1 := hr1.cell 0; have q2 := hr1.free 0; simp at q0 q1; clear happ hp1 hr1))
  all_goals
    obtain ⟨hp1, hr1⟩ := KEEP.out _ _ HA.out.frm
    have hp2 := (hp1.other (p := ⟨r, 0, none⟩) hpr (.slice a' (k + n) cap'))
    have hr2 := (hr1.put 0 (.slice a' (k + n) cap'))
    have s0 := hp2.cell 0
    have s1 := hr2.cell 0
    have s2 := hp2.cell 1
    have s3 := hp2.free 1
    simp at s0 s1 s2
    clear hp1 hr1 hp2 hr2
    go_wp2
    go_end0
    exact ⟨rfl, FIN.out _ _ _ _ HA.out⟩

/-- Bytes lie in no block whose first cells are of another kind. -/
theorem bytes_ne4 {w : World} {ad : Option Addr} {b : List Nat} {p : Nat} {t : TypeId} {x0 x1 x2 x3 : Value} (hb : Bytes w ad b) (hp : Whole w p t #[x0, x1, x2, x3])
    (h0 : ∀ n, x0 ≠ .int .u8 n) (h1 : ∀ n, x1 ≠ .int .u8 n) (h2 : ∀ n, x2 ≠ .int .u8 n) (h3 : ∀ n, x3 ≠ .int .u8 n) : b ≠ [] → ∀ x, ad = some x → x.block ≠ p := by
  rintro hne x hx rfl
  rcases hb.2.2 with h | ⟨q, off, hq, hc⟩
  · exact hne h
  · rw [hx] at hq
    cases hq
    have e := hc 0 (by cases b with | nil => exact absurd rfl hne | cons _ _ => simp)
    rw [hp.cell] at e
    simp only [Nat.add_zero] at e
    match off, e with
    | 0, e => exact h0 _ (by simpa using e)
    | 1, e => exact h1 _ (by simpa using e)
    | 2, e => exact h2 _ (by simpa using e)
    | 3, e => exact h3 _ (by simpa using e)
    | n + 4, e => simp at e

set_option maxHeartbeats 1000000 in
theorem lay_off (B p room : Nat) (ad : Option Addr) (n c : Nat) (b : List Nat) (w : World) (hp : Whole w p 49 #[.pointer none, .int .i64 0, .int .i64 0, .int .i64 (room : Nat)])
    (hB : B ≤ p) (hroom : room ≤ 16777216) (hb : Bytes w ad b) (hn : n = b.length) (hnil : ad = none → c = 0) (hfit : b.length ≤ room) :
    Calls Try.prog 18 #[.pointer (some ⟨p, 0, none⟩), .slice ad n c] w (CutEnd w B p [p] b 0 room) := by
  have hap := bytes_ne4 hb hp (by simp) (by simp) (by simp) (by simp)
  have HAP := Lib.hid hap; clear hap
  have hBw : B ≤ w.heap.size := Nat.le_of_lt (Nat.lt_of_le_of_lt hB hp.lt)
  obtain ⟨i0, hi, hz0, hz1, hz2⟩ := info_parts Try.info5
  have hn2 : n ≤ 16777216 := by omega
  have c0 := hp.cell 0
  have c1 := hp.cell 1
  simp at c0 c1
  have HP := Lib.hid hp; clear hp
  have HB := Lib.hid hb; clear hb
  have HN := Lib.hid hn; clear hn
  have HF := Lib.hid hfit; clear hfit
  go_enter Try.func18, Try.ntmps18
  go_wp2
  go_quiet (fail)
  go_wp2_with fail
  refine (cut_off B p room _ (by exact HP.out) hB hroom).mono ?_
  rintro e w3 ⟨rfl, r, a, cap, h, hs, hf3, hF3⟩
  clear c0 c1
  have HEAD := Lib.hid (show Frm [p] w w3 from ⟨hf3.os, hf3.tape, hf3.output, hf3.size, hf3.block⟩)
  have HF3 := Lib.hid hF3; clear hF3 hf3
  have hBw3 : B ≤ w3.heap.size := Nat.le_trans hBw HEAD.out.size
  have HB3 : Hid (Bytes w3 ad b) := HEAD.out.bytes' HB.out (fun hne x hx => by simpa using HAP.out hne x hx)
  have hpr : p ≠ r := h.disk.ne h.row (by decide)
  have hp := h.disk
  have hr := h.row
  simp only [List.length_nil, Int.natCast_zero] at hp hr
  have keep : ∀ (m : Nat) (w1 : World), Frm (blk a) (w3.drewN m) w1 → Whole w1 p _ _ ∧ Whole w1 r _ _ := fun m w1 hf =>
    ⟨hf.whole (w := w3.drewN m) (by exact hp) (hd_ne h.head hp (by decide)), hf.whole (w := w3.drewN m) (by exact hr) (hd_ne h.head hr (by decide))⟩
  have KEEP := Lib.hid keep; clear keep
  have c0 := hp.cell 0
  have c1 := hp.cell 1
  have cr := hr.cell 0
  have fp0 := hp.free 0
  have fp1 := hp.free 1
  have fr := hr.free 0
  simp at c0 c1 cr
  have FIN := Lib.hid (fun (m : Nat) (w1 : World) (a' : Option Addr) (cap' : Nat) => lay_end (w := w3) (w1 := w1) (B := B) (p := p) (r := r) (a := a) (cap := cap) (l := []) (b := b) (s := 0) (room := room) (m := m) (k := 0) (n := n) (a' := a') (cap' := cap') h hs rfl HN.out HB3.out.1 (by have := HN.out; have := HF.out; omega))
  have END : Hid (∀ w', CutTo w3 w' B p (p :: r :: blk a) ([] ++ b) 0 room → CutTo w w' B p [p] b 0 room) := by
    rintro w' ⟨r', a', cap', hon, hs', hf, hF⟩
    refine ⟨r', a', cap', hon, hs', HEAD.out.trans hf (by simp) ?_, fun x hx => ?_⟩
    · exact fun x hx => HF3.out x hx
    · rcases hF x hx with h1 | h1
      · exact HF3.out x h1
      · right; have := HEAD.out.size; omega
  have HD := Lib.hid h.head; clear h hp hr hs
  go_wp2
  go_region_law ((refine step_happ rfl (.tmp 40) (.tmp 41) 29 rfl B 5 i0 Try.underlying29 hi hz0 hz1 hz2 a 0 cap [] rfl HD.out rfl _ _ _ b rfl ?_ HN.out hnil ?_ ?_ ?_; (exact HB3.out); (omega); (exact hBw3); intro a' cap' w1 happ; have HA := Lib.hid happ; obtain ⟨hp1, hr1⟩ := KEEP.out _ _ happ.frm; have q0 := hp1.cell 0; have q1 := hr1.cell 0; have q2 := hr1.free 0; simp at q0 q1; clear happ hp1 hr1))
  all_goals
    obtain ⟨hp1, hr1⟩ := KEEP.out _ _ HA.out.frm
    have hp2 := (hp1.other (p := ⟨r, 0, none⟩) hpr (.slice a' (0 + n) cap'))
    have hr2 := (hr1.put 0 (.slice a' (0 + n) cap'))
    have s0 := hp2.cell 0
    have s1 := hr2.cell 0
    have s2 := hp2.cell 1
    have s3 := hp2.free 1
    simp at s0 s1 s2 s3
    clear hp1 hr1 hp2 hr2
    go_wp2
    go_end0
    have hfin := FIN.out _ _ _ _ HA.out
    simp at hfin
    exact ⟨rfl, END.out _ (by simpa using hfin)⟩

/-- lay, whether or not there is a row. -/
theorem lay_any {w : World} {B p : Nat} {F l : List Nat} {s room : Nat} (ad : Option Addr) (n c : Nat) (b : List Nat) (h : Dk w B p F l s room) (hb : Bytes w ad b) (hn : n = b.length) (hnil : ad = none → c = 0) (hfit : l.length + b.length ≤ room) :
    Calls Try.prog 18 #[.pointer (some ⟨p, 0, none⟩), .slice ad n c] w (DkEnd w B p F (l ++ b) s room) := by
  obtain ⟨hs, ⟨rfl, rfl, hp⟩ | ⟨r, a, cap, hon, rfl⟩⟩ := h
  · have hs0 : s = 0 := by simpa using hs.2.2.1
    subst hs0
    exact (lay_off B p room ad n c b w hp hs.2.1 hs.2.2.2.2 hb hn hnil (by simpa using hfit)).mono fun _ _ h => ⟨h.1, h.2.dk⟩
  · exact (lay_on B p r a cap l s room ad n c b w hon hs hb hn hnil hfit).mono fun _ _ h => ⟨h.1, h.2.dk⟩
end Go.Proofs.Ytibaloloheakpaa
