/- A keeper on a disk that is known (Kf) through owners' calls, crashes and openings. -/
import Derived.Test.YtcbpppdmkhpkkaaGreatMG
namespace Go.Proofs.YtcbpppdmkhpkkaaGreat
open Go.RowKit
set_option maxRecDepth 100000

/-- Since w0 a keeper at k on the disk dp, with the state S, which the disk's records make; versions up to m, at most n bytes. -/
def Kf (w0 w : World) (k dp : Nat) (S : MS) (room m n : Nat) : Prop :=
  ∃ jq Fd l, Kp w w0.heap.size [] k jq dp Fd S l room ∧ Frm [] w0 w ∧ MOk S ∧ MVer m S ∧ l.length ≤ n ∧ Rc S l
/-- Its disk behind a crash. -/
def Kc (w0 w : World) (dp : Nat) (S : MS) (room m n : Nat) : Prop :=
  ∃ Fd l, Dk w w0.heap.size dp Fd l l.length room ∧ (∀ x ∈ Fd, w0.heap.size ≤ x) ∧ Frm [] w0 w ∧ MOk S ∧ MVer m S ∧ l.length ≤ n ∧ Rc S l
section
variable {w0 w w' : World} {k dp : Nat} {S S' : MS} {room m n : Nat}
theorem Kf.frm (h : Kf w0 w k dp S room m n) : Frm [] w0 w := by obtain ⟨_, _, _, _, h2, _⟩ := h; exact h2
theorem Kf.same (h : Kf w0 w k dp S room m n) (hf : Frm [] w w') : Kf w0 w' k dp S room m n := by
  obtain ⟨jq, Fd, l, h1, h2, h3, h4, h5, h6⟩ := h
  exact ⟨jq, Fd, l, h1.here hf, h2.trans hf (by simp) (by simp), h3, h4, h5, h6⟩
theorem Kf.to {jq : Nat} {Fd l : List Nat} {a m' : Nat} (h1 : Kp w w0.heap.size [] k jq dp Fd S l room) (h2 : Frm [] w0 w) (h5 : l.length ≤ n) (h6 : Rc S l) (hM : MOk S') (hV : MVer m' S') (t : KpTo w w0.heap.size [] k jq dp Fd S l room S' a w') : Kf w0 w' k dp S' room m' (n + a) := by
  obtain ⟨Fd', l', k1, f1, x1, l1, r1⟩ := t
  have q1 := kp_pos h1
  exact ⟨jq, Fd', l', k1, h2.trans f1 (by simp) (fun x hx => .inr (q1 x hx).2.1), hM, hV, by omega, r1 h6⟩
theorem kf_do (c : MC) (a : Option Addr) (cap : Nat) (h : Kf w0 w k dp S room m n) (hm : m < 18446744073709551615) (hc : MCOk c) (hb : Bytes w a c.val) (hnil : a = none → cap = 0) (hk : c.kind ≠ 7) (hl : c.key.size + c.val.length ≤ 4000) (hr : n + 5000 ≤ room) :
    Calls Tryz.prog 13 #[.pointer (some ⟨k, 0, none⟩), cmdV c a cap] w fun e w' => ∃ (r : Nat) (ga : Option Addr) (gn gc : Nat), e = .returned (.tuple #[.int .u64 (r : Nat), .slice ga gn gc, .int .i64 (doE S c : Nat)]) ∧ (doE S c = 0 → r = doN S c) ∧ Kf w0 w' k dp (doS S c) room (m + 1) (n + 4104) := by
  obtain ⟨jq, Fd, l, h1, h2, h3, h4, h5, h6⟩ := h
  refine (kdo_to c a cap h1 h3 h4 hc (by simp) hb hnil hk hl (by omega)).mono ?_
  rintro e w' ⟨r, ga, gn, gc, he, hr', t⟩
  exact ⟨r, ga, gn, gc, he, hr', Kf.to h1 h2 h5 h6 (h3.does hc) (h4.does hm) t⟩
theorem kf_acq (ses br : Nat) (b : ByteArray) (h : Kf w0 w k dp S room m n) (hm : m + 2 < 18446744073709551615) (hs : ses < 18446744073709551616) (hbr : br < 18446744073709551616) (hb : b.size ≤ 2900) (hr : n + 10000 ≤ room) :
    Calls Tryz.prog 9 #[.pointer (some ⟨k, 0, none⟩), .int .u64 (ses : Nat), .int .u64 (br : Nat), .string b] w fun e w' => e = .returned (.tuple #[.int .u64 (acqR S ses br b : Nat), .int .i64 (acqE S ses br b : Nat)]) ∧ Kf w0 w' k dp (acqS S ses br b) room (m + 2) (n + 8208) := by
  obtain ⟨jq, Fd, l, h1, h2, h3, h4, h5, h6⟩ := h
  refine (owpacq_any ses br b h1 h3 h4 (by omega) (by simp) hs hbr hb (by omega)).mono ?_
  rintro e w' ⟨he, t⟩
  exact ⟨he, Kf.to h1 h2 h5 h6 (acqS_ok h3 hs (by omega)) (acqS_ver h4 (by omega)) t⟩
theorem kf_hld (b : ByteArray) (h : Kf w0 w k dp S room m n) (hb : b.size ≤ 2900) :
    Calls Tryz.prog 15 #[.pointer (some ⟨k, 0, none⟩), .string b] w fun e w' => e = .returned (hldV S b) ∧ Frm [] w w' := by
  obtain ⟨jq, Fd, l, h1, h2, h3, h4, h5, h6⟩ := h
  exact owphld_any b h1 h3 hb
theorem kf_crash (i j : Int) (h : Kf w0 w k dp S room m n) :
    Calls Tryz.prog 24 #[.pointer (some ⟨dp, 0, none⟩), .int .i64 i, .int .i64 j] w fun e w' => e = .returned (.tuple #[]) ∧ Kc w0 w' dp S room m n := by
  obtain ⟨jq, Fd, l, h1, h2, h3, h4, h5, h6⟩ := h
  have q1 := kp_pos h1
  have e0 : keptN l l.length i = 0 := by unfold keptN; simp
  have e : crashed l l.length i j = l := by rw [crashed_plain (by omega), e0]; simp
  refine (crash_any i j h1.dk).mono ?_
  rintro e' w' ⟨rfl, Fd', hd, hf, hx⟩
  rw [e] at hd
  refine ⟨rfl, Fd', l, hd, fun x hm => ?_, h2.trans hf (by simp) (fun x hx => .inr (q1 x (by simp [hx])).2.1), h3, h4, h5, h6⟩
  rcases hx x hm with h | h
  · exact (q1 x (by simp [h])).2.1
  · have := h2.size; omega
theorem kc_open (h : Kc w0 w dp S room m n) :
    Calls Tryz.prog 23 #[.pointer (some ⟨dp, 0, none⟩)] w fun e w' => ∃ k, e = .returned (.tuple #[.pointer (some ⟨k, 0, none⟩), .int .i64 0]) ∧ Kf w0 w' k dp S room m n := by
  obtain ⟨Fd, l, hd, hB, h2, h3, h4, h5, h6⟩ := h
  refine (kopen_any [] hd (by simp) (by simp) (.inr rep_ok)).mono ?_
  rintro e w' (⟨S', k, jq, Fd', hrp, rfl, hk, _, hf, hx, _⟩ | ⟨hno, _⟩)
  · rw [h6.recs.1] at hrp
    cases hrp
    rw [h6.recs.2] at hk
    exact ⟨k, rfl, jq, Fd', l, hk, h2.trans hf (by simp) (fun x hx => .inr (hB x hx)), h3, h4, h5, h6⟩
  · rw [h6.recs.1] at hno; cases hno
end
theorem kf_open (w0 w : World) (dp room : Nat) (h : Dk w dp dp [dp] [] 0 room) (hf : Frm [] w0 w) (hd : w0.heap.size ≤ dp) :
    Calls Tryz.prog 23 #[.pointer (some ⟨dp, 0, none⟩)] w fun e w' => ∃ k, e = .returned (.tuple #[.pointer (some ⟨k, 0, none⟩), .int .i64 0]) ∧ Kf w0 w' k dp {} room 0 0 := by
  refine (kopen_low w0 w dp room h hf hd).mono ?_
  rintro e w' ⟨k, jq, Fd, he, hk, hf1⟩
  exact ⟨k, he, jq, Fd, [], hk, hf1, MOk.first, MVer.first 0, by simp, Rc.first⟩
end Go.Proofs.YtcbpppdmkhpkkaaGreat
