/- Ack and AckAll in one word: a code, and a cursor that is known by it. -/
import Derived.Test.YtghadpihmhaepaaYCqRight
import Derived.Test.YtghadpihmhaepaaYCqAckAll
namespace Go.Proofs.Ytghadpihmhaepaa
open Go.RowKit
set_option maxRecDepth 100000

def noCrs : Crs := ⟨⟨0, 0⟩, []⟩
theorem okc_no : OkC noCrs := ⟨List.Pairwise.nil, fun x hx => by simp [noCrs] at hx, fun l e he => absurd he (by simp [noCrs, ofH, Mem])⟩
/-- A cursor that lies in memory, with at most b of anything. -/
structure Cin (w : World) (F : List Nat) (m : Ps) (a : Option Addr) (n cap : Nat) (Z : List Hx) (b : Nat) : Prop where
  hl : HxL w F a Z
  len : n = Z.length
  cap : CapOk a n cap
  ok : OkC ⟨m, hels Z⟩
  bd : BdH b (hels Z)
  few : n ≤ b
  me : m.e < 18446744073709551616
theorem Cin.keep {w w' : World} {F F' S : List Nat} {m : Ps} {a : Option Addr} {n cap : Nat} {Z : List Hx} {b : Nat} (h : Cin w F m a n cap Z b) (hf : Frm S w w') (hS : ∀ x ∈ S, x ∈ F ∨ w.heap.size ≤ x) (hF : ∀ x ∈ F', x ∈ F ∨ w.heap.size ≤ x) : Cin w' F' m a n cap Z b := ⟨h.hl.keep hf hS hF, h.len, h.cap, h.ok, h.bd, h.few, h.me⟩
theorem Cin.sub {w w' : World} {F : List Nat} {m : Ps} {a : Option Addr} {n cap : Nat} {Z : List Hx} {b : Nat} (h : Cin w F m a n cap Z b) (hf : Frm [] w w') : Cin w' F m a n cap Z b := h.keep hf (by simp) (fun x hx => .inl hx)
theorem Cin.more {w : World} {F : List Nat} {m : Ps} {a : Option Addr} {n cap : Nat} {Z : List Hx} {b b' : Nat} (h : Cin w F m a n cap Z b) (hb : b ≤ b') : Cin w F m a n cap Z b' := ⟨h.hl, h.len, h.cap, h.ok, fun x hx => Nat.le_trans (h.bd x hx) hb, Nat.le_trans h.few hb, h.me⟩
theorem Cin.no (w : World) (F : List Nat) (b : Nat) : Cin w F ⟨0, 0⟩ none 0 0 [] b := ⟨HxL.nil _ _ _, rfl, ⟨fun _ => rfl, Nat.le_refl _, Nat.zero_le _⟩, okc_no, fun x hx => by simp [hels] at hx, Nat.zero_le _, by decide⟩
theorem Cin.rgs {w : World} {F : List Nat} {m : Ps} {a : Option Addr} {n cap : Nat} {Z : List Hx} {b : Nat} (h : Cin w F m a n cap Z b) (hb : b ≤ 400) : RgsOk Z := rgsOk_of h.ok.rgs h.bd hb
theorem Cin.small {w : World} {F : List Nat} {m : Ps} {a : Option Addr} {n cap : Nat} {Z : List Hx} {b : Nat} (h : Cin w F m a n cap Z b) (hb : b ≤ 400) : n < 4611686018427387904 ∧ ∀ x ∈ Z, x.t.2.length < 4611686018427387904 := ⟨by have := h.few; omega, fun x hx => by have := (h.rgs hb x hx).1; omega⟩
def AckTo (X : List Ld) (o : Nat) (c : Crs) (p : Ps) (D : Crs) : Prop := ∃ H1, Added c.held p H1 ∧ Reach X o H1 c.mark D.mark ∧ Stop X o H1 D.mark ∧ D.held = leftH D.mark H1
def AllTo (X : List Ld) (o : Nat) (c : Crs) (p : Ps) (D : Crs) : Prop := Reach X o c.held ⟨p.l, p.e + 1⟩ D.mark ∧ Stop X o c.held D.mark ∧ D.held = leftH D.mark c.held
theorem crs_ext {A B : Crs} (h : A.mark = B.mark) (k : A.held = B.held) : A = B := by
  cases A; cases B; simp_all
theorem AckTo.uniq {X : List Ld} {o : Nat} {c : Crs} {p : Ps} {A B : Crs} (h : AckTo X o c p A) (k : AckTo X o c p B) : A = B := by
  obtain ⟨H1, h1, h2, h3, h4⟩ := h
  obtain ⟨H2, k1, k2, k3, k4⟩ := k
  obtain rfl := h1.uniq k1
  have e := reach_uniq h2 h3 k2 k3
  exact crs_ext e (by rw [h4, k4, e])
theorem AllTo.uniq {X : List Ld} {o : Nat} {c : Crs} {p : Ps} {A B : Crs} (h : AllTo X o c p A) (k : AllTo X o c p B) : A = B := by
  obtain ⟨h2, h3, h4⟩ := h
  obtain ⟨k2, k3, k4⟩ := k
  have e := reach_uniq h2 h3 k2 k3
  exact crs_ext e (by rw [h4, k4, e])
theorem AckTo.ok {X : List Ld} {o : Nat} {c : Crs} {p : Ps} {D : Crs} (h : AckTo X o c p D) (hc : OkC c) : OkC D := by
  obtain ⟨H1, h1, h2, h3, h4⟩ := h
  obtain ⟨a, b⟩ := h1.ok hc.srt hc.rgs
  have := okc_left (M := D.mark) a b
  rw [← h4] at this
  exact this
theorem AllTo.ok {X : List Ld} {o : Nat} {c : Crs} {p : Ps} {D : Crs} (h : AllTo X o c p D) (hc : OkC c) : OkC D := by
  obtain ⟨h2, h3, h4⟩ := h
  have := okc_left (M := D.mark) hc.srt hc.rgs
  rw [← h4] at this
  exact this
theorem AckTo.acked {X : List Ld} {o : Nat} {c : Crs} {p : Ps} {D : Crs} (h : AckTo X o c p D) (hX : RtLd X) (hc : OkC c) {q : Ps} (hq : q ∈ allP X o) : ackedC D q ↔ ackedC c q ∨ q = p := by
  obtain ⟨H1, h1, h2, h3, h4⟩ := h
  obtain ⟨a, b⟩ := h1.ok hc.srt hc.rgs
  have := acked_left hX a h2 hq
  rw [← h4] at this
  rw [show D = ⟨D.mark, D.held⟩ from rfl, this]
  unfold ackedC
  simp only
  rw [h1.mem q]
  exact ⟨fun h => h.elim (fun h => .inl (.inl h)) (fun h => h.elim (fun h => .inl (.inr h)) .inr), fun h => h.elim (fun h => h.elim .inl (fun h => .inr (.inl h))) (fun h => .inr (.inr h))⟩
theorem AllTo.acked {X : List Ld} {o : Nat} {c : Crs} {p : Ps} {D : Crs} (h : AllTo X o c p D) (hX : RtLd X) (hc : OkC c) (hp : ¬ p.lt c.mark) {q : Ps} (hq : q ∈ allP X o) : ackedC D q ↔ ackedC c q ∨ ¬ p.lt q := by
  obtain ⟨h2, h3, h4⟩ := h
  have := acked_left hX hc.srt h2 hq
  rw [← h4] at this
  rw [show D = ⟨D.mark, D.held⟩ from rfl, this]
  unfold ackedC
  simp only
  have e : q.lt ⟨p.l, p.e + 1⟩ ↔ ¬ p.lt q := by unfold Ps.lt; simp only; omega
  rw [e]
  constructor
  · rintro (h | h)
    · exact .inr h
    · exact .inl (.inr h)
  · rintro ((h | h) | h)
    · exact .inl (by unfold Ps.lt at *; omega)
    · exact .inr h
    · exact .inl h
theorem leftH_len (m : Ps) (H : List Hel) : (leftH m H).length ≤ H.length := by
  unfold leftH
  refine Nat.le_trans (List.length_filter_le _ _) ?_
  rw [List.length_map]
  exact Nat.le_refl _
theorem leftH_bd {m : Ps} {H : List Hel} {b : Nat} (h : BdH b H) : BdH b (leftH m H) := fun x hx => by
  unfold leftH at hx
  obtain ⟨y, hy, rfl⟩ := List.mem_map.1 (List.mem_filter.1 hx).1
  exact Nat.le_trans (leftT_len m y) (h y hy)
def AkEnd (w : World) (F : List Nat) (b : Nat) (code : Nat) (T : Crs → Prop) (e : Ending) (w' : World) : Prop := ∃ (D : Ps) (Zd : List Hx) (ad : Option Addr) (dn cd : Nat), e = .returned (.tuple #[crsV D ad dn cd, .int .i64 (code : Nat)]) ∧ Hid (Cin w' F D ad dn cd Zd b) ∧ Hid (T ⟨D, hels Zd⟩) ∧ Hid (Frm [] w w')
def codeA (X : List Ld) (o : Nat) (c : Crs) (p : Ps) : Nat := if hasP X o p = false then 30 else if ackedC c p then 31 else 0
def codeL (X : List Ld) (o : Nat) (c : Crs) (p : Ps) : Nat := if hasP X o p = false then 30 else if p.lt c.mark then 31 else 0
def ToA (X : List Ld) (o : Nat) (c : Crs) (p : Ps) (D : Crs) : Prop := (codeA X o c p = 0 → AckTo X o c p D) ∧ (codeA X o c p ≠ 0 → D = noCrs)
def ToL (X : List Ld) (o : Nat) (c : Crs) (p : Ps) (D : Crs) : Prop := (codeL X o c p = 0 → AllTo X o c p D) ∧ (codeL X o c p ≠ 0 → D = noCrs)
theorem codeA_zero {X : List Ld} {o : Nat} {c : Crs} {p : Ps} : codeA X o c p = 0 ↔ hasP X o p = true ∧ ¬ ackedC c p := by
  unfold codeA
  split
  · rename_i h; simp [h]
  · rename_i h
    split
    · rename_i h2; simp [h2]
    · rename_i h2; simp [h2]; simpa using h
theorem ak_no {w w' : World} {F : List Nat} {b code : Nat} {T : Crs → Prop} {e : Ending} (h : NoEnd w (code : Nat) e w') (hT : T noCrs) : AkEnd w F b code T e w' := by
  obtain ⟨rfl, hf⟩ := h
  exact ⟨⟨0, 0⟩, [], none, 0, 0, rfl, Cin.no _ _ _, hT, hf⟩
theorem ak_yes {w w' : World} {F : List Nat} {X : List Ld} {o : Nat} {m : Ps} {H : List Hel} {b : Nat} {T : Crs → Prop} {e : Ending} (h : CqYes w F X o m H e w') (hs : Srt H) (hr : RgsH H) (hb : BdH b H) (hl : H.length ≤ b) (hT : ∀ M, Reach X o H m M → Stop X o H M → T ⟨M, leftH M H⟩) : AkEnd w F b 0 T e w' := by
  obtain ⟨M, Z, a, zn, c, rfl, h1, h2, h3, h4, h5⟩ := h
  refine ⟨M, Z, a, zn, c, rfl, Lib.hid ⟨h4.out.1, h1.out, by rw [h1.out]; exact h4.out.2, ?_, ?_, ?_, h2.out.2.2⟩, Lib.hid ?_, h5⟩
  · rw [h3.out]; exact okc_left hs hr
  · rw [h3.out]; exact leftH_bd hb
  · rw [h1.out, ← hels_length, h3.out]; exact Nat.le_trans (leftH_len _ _) hl
  · rw [h3.out]; exact hT M h2.out.1 h2.out.2.1
theorem cqack14_any {al : Option Addr} {nl cl : Nat} {X : List Ld} {o : Nat} {m : Ps} {a : Option Addr} {n cap : Nat} {F : List Nat} {Y : List Hx} {b : Nat} {p : Ps} {w : World} (hx : Lds14 w [] al nl X o) (h : Cin w F m a n cap Y b) (hb : b ≤ 300) (hF : ∀ x ∈ F, x < w.heap.size) (hpf : p.fits) :
    Calls Try.prog 13 #[.slice al nl cl, .int .u64 (o : Nat), crsV m a n cap, p.val] w (AkEnd w F (b + 1) (codeA X o ⟨m, hels Y⟩ p) (ToA X o ⟨m, hels Y⟩ p)) := by
  refine cqack_any al nl cl X o m a n cap F Y p w hx.l hx.len (by have := hx.few; omega) (by have := hx.open5; omega) hx.fits h.hl h.len (by have := h.few; omega) h.cap ⟨h.ok.srt, h.ok.rgs⟩ (fun x hx => by have := h.bd x hx; omega) hF h.me hpf _ (fun h1 e w' h2 => ?_) (fun h1 h1' e w' h2 => ?_) (fun h1 h1' H1 hadd e w' h2 => ?_)
  · have e1 : codeA X o ⟨m, hels Y⟩ p = 30 := by unfold codeA; rw [if_pos h1]
    rw [e1]
    exact ak_no h2 ⟨fun h => (by rw [e1] at h; cases h), fun _ => rfl⟩
  · have e1 : codeA X o ⟨m, hels Y⟩ p = 31 := by unfold codeA; rw [if_neg (by rw [h1]; decide), if_pos h1']
    rw [e1]
    exact ak_no h2 ⟨fun h => (by rw [e1] at h; cases h), fun _ => rfl⟩
  · have e1 : codeA X o ⟨m, hels Y⟩ p = 0 := by unfold codeA; rw [if_neg (by rw [h1]; decide), if_neg h1']
    rw [e1]
    have ok := hadd.ok h.ok.srt h.ok.rgs
    have bd := hadd.bd h.bd
    exact ak_yes h2 ok.1 ok.2 bd.1 (by have h3 := bd.2; rw [hels_length] at h3; have h4 := h.few; have h5 := h.len; omega) (fun M hr hs => ⟨fun _ => ⟨H1, hadd, hr, hs, rfl⟩, fun h => absurd e1 h⟩)
end Go.Proofs.Ytghadpihmhaepaa
