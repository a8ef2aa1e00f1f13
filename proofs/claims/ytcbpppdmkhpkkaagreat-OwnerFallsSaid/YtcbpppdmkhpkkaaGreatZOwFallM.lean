/- Of OwnerFalls: a session of l ticks, what it acquired, a wait of w ticks, another session. Of no program. -/
import Derived.Test.YtcbpppdmkhpkkaaGreatMG
namespace Go.Proofs.YtcbpppdmkhpkkaaGreat
open Go.RowKit

/-- The bundle's name. -/
def xB : ByteArray := ⟨#[120]⟩
def opnC (l : Nat) : MC := { kind := 3, ticks := l }
theorem opnC_ok {l : Nat} (h : l < 18446744073709551616) : MCOk (opnC l) := ⟨by show 3 < 256; decide, by show (0 : Nat) ≤ 5000; decide, ⟨by show (0 : Nat) ≤ 5000; decide, by intro x hx; cases hx⟩, by show 0 < 18446744073709551616; decide, by show 0 < 18446744073709551616; decide, h⟩
theorem opn_does {S : MS} {l : Nat} (h1 : 1 ≤ l) (h2 : l ≤ 1000) (h3 : S.ses.length ≤ 3) (h4 : S.last ≤ 3) (hn : S.now ≤ 1000) :
    doE S (opnC l) = 0 ∧ doN S (opnC l) = S.last + 1 ∧ doS S (opnC l) = { S with last := S.last + 1, ses := S.ses ++ [⟨S.last + 1, S.now + l, l⟩] } := by
  have hc : openC S.last S.ses.length l = 0 := by unfold openC; rw [if_pos ⟨h1, by omega⟩, if_neg (by omega)]
  refine ⟨hc, ?_, ?_⟩
  · show openR S.last S.ses.length l = _
    unfold openR; rw [if_pos hc]
  · show (⟨S.now, S.nodes, openT S.last S.ses.length l, openS S.ses S.last S.now l⟩ : MS) = _
    unfold openT openS sumU
    rw [if_pos hc, if_pos hc, if_pos (by omega)]
/-- Behind the first session's Acquire. -/
structure FlS (l : Nat) (S : MS) : Prop where
  ok : MOk S
  now : S.now = 0
  last : S.last = 1
  ses : S.ses = [⟨1, l, l⟩]
  own : ∃ d, lookK S.nodes (ownK xB) = some d ∧ d.own = 1 ∧ numB d.v = 5
  ep : ∃ d, lookK S.nodes (epK xB) = some d ∧ d.own = 0 ∧ numB d.v = 1
  few : S.nodes.length ≤ 2
  ver : ∀ d ∈ S.nodes, d.ver ≠ 0
theorem FlS.epB {l : Nat} {S : MS} (h : FlS l S) : epB S xB = 1 := by
  obtain ⟨d, hd, _, hv⟩ := h.ep
  unfold Go.Proofs.YtcbpppdmkhpkkaaGreat.epB
  rw [← look_get, hd]
  exact hv
theorem fl_open {l : Nat} (h1 : 2 ≤ l) (h2 : l ≤ 60) : doE {} (opnC l) = 0 ∧ doN {} (opnC l) = 1 ∧ doS {} (opnC l) = ⟨0, [], 1, [⟨1, l, l⟩]⟩ := by
  obtain ⟨a, b, c⟩ := opn_does (S := {}) (l := l) (by omega) (by omega) (by decide) (by decide) (by decide)
  refine ⟨a, b, ?_⟩
  rw [c]
  show (⟨0, [], 1, [] ++ [⟨1, 0 + l, l⟩]⟩ : MS) = _
  rw [Nat.zero_add]
  rfl
theorem fl_acq {l : Nat} (h1 : 2 ≤ l) (h2 : l ≤ 60) : acqE (doS {} (opnC l)) 1 5 xB = 0 ∧ acqR (doS {} (opnC l)) 1 5 xB = 1 ∧ FlS l (acqS (doS {} (opnC l)) 1 5 xB) := by
  have hM : MOk (doS {} (opnC l)) := MOk.first.does (opnC_ok (by omega))
  have hs := (fl_open h1 h2).2.2
  obtain ⟨S1, hS1⟩ : ∃ S1, S1 = doS {} (opnC l) := ⟨_, rfl⟩
  rw [← hS1] at hM hs ⊢
  have hn : S1.nodes = [] := by rw [hs]
  have hlive : liveS S1.ses 1 S1.now = true := by
    rw [hs]
    show liveS [⟨1, l, l⟩] 1 0 = true
    unfold liveS
    rw [show atS [⟨1, l, l⟩] 1 = 0 from rfl]
    simp
    omega
  have hb : xB.size ≤ 58 := by decide
  obtain ⟨e1, e2, e3, e4, e5, e6, ve, e7⟩ := acq_good (S := S1) (ses := 1) (broker := 5) (b := xB) hM (by rw [hn]; intro d hd; cases hd) (by rw [hn]; decide) hb (by decide) (by rw [exp_live (i := 0), hlive]; rfl) (by rw [hn]; rfl)
  have ep0 : Go.Proofs.YtcbpppdmkhpkkaaGreat.epB S1 xB = 0 := by unfold Go.Proofs.YtcbpppdmkhpkkaaGreat.epB; rw [hn]; rfl
  have em : (Go.Proofs.YtcbpppdmkhpkkaaGreat.epB S1 xB + 1) % 18446744073709551616 = 1 := by rw [ep0]
  rw [em] at e2 e7
  refine ⟨e1, e2, acqS_ok hM (by decide) (by omega), by rw [e4, hs], by rw [e5, hs], by rw [e3, hs], ?_, ?_, by rw [hn] at e6; simpa using e6, ?_⟩
  · exact ⟨_, by rw [e7, if_neg (own_ne_ep xB xB), if_pos rfl], rfl, numB_put (n := 5) (by decide)⟩
  · refine ⟨_, by rw [e7, if_pos rfl], ?_, numB_put (n := 1) (by decide)⟩
    show (getN S1.nodes (epK xB)).own = 0
    rw [hn]; rfl
  · have hV : MVer 0 S1 := by intro d hd; rw [hn] at hd; cases hd
    intro d hd
    have := acqS_ver (ses := 1) (br := 5) (b := xB) hV (by decide) d hd
    omega
theorem FlS.hld' {l : Nat} {S : MS} (h : FlS l S) : isN S.nodes (ownK xB) = true ∧ numB (getN S.nodes (ownK xB)).v = 5 := by
  obtain ⟨d, hd, _, hv⟩ := h.own
  rw [← look_is, ← look_get, hd]
  exact ⟨rfl, hv⟩
/-- Behind the wait, and the other session's Open. -/
theorem fl_end {l w : Nat} {S : MS} (h : FlS l S) (h1 : 2 ≤ l) (h2 : l ≤ 60) (hw : w < 100) :
    doE (doS S (tickC w)) (opnC l) = 0 ∧ doN (doS S (tickC w)) (opnC l) = 2 ∧
    (w < l → isN (doS S (tickC w)).nodes (ownK xB) = true ∧ acqE (doS (doS S (tickC w)) (opnC l)) 2 6 xB = 50) ∧
    (l ≤ w → isN (doS S (tickC w)).nodes (ownK xB) = false ∧ acqE (doS (doS S (tickC w)) (opnC l)) 2 6 xB = 0 ∧ acqR (doS (doS S (tickC w)) (opnC l)) 2 6 xB = 2) := by
  have hM3 := h.ok.does (tickC_ok (n := w) (by omega))
  have tk : tickT S.now w = w := by rw [h.now]; unfold tickT; omega
  have hlook := tick_look h.ok w
  have hses := tick_ses S w
  have hnow := tick_now S w
  have hlast := tick_last S w
  have hfew := tick_few S w
  have hsub : ∀ d ∈ (doS S (tickC w)).nodes, d ∈ S.nodes := (dropAll_sub _ _).subset
  rw [tk] at hlook hses hnow
  rw [h.ses] at hlook hses
  obtain ⟨S3, hS3⟩ : ∃ S3, S3 = doS S (tickC w) := ⟨_, rfl⟩
  rw [← hS3] at hM3 hlook hses hnow hlast hfew hsub ⊢
  have hls : S3.ses.length ≤ 1 := by rw [hses]; exact (leftS_sub _ _).length_le
  obtain ⟨a, b, c⟩ := opn_does (S := S3) (l := l) (by omega) (by omega) (by omega) (by rw [hlast, h.last]; omega) (by omega)
  have hM4 := hM3.does (opnC_ok (l := l) (by omega))
  refine ⟨a, by rw [b, hlast, h.last], fun hwl => ?_, fun hwl => ?_⟩
  · have hg : goneS w [(⟨1, l, l⟩ : Sn)] = [] := by
      unfold goneS
      rw [List.filter_cons, if_neg (by unfold overS; simp; omega)]
      rfl
    have hi : isN S3.nodes (ownK xB) = true := by
      obtain ⟨d, hd, ho, _⟩ := h.own
      rw [← look_is, hlook, hd, hg]
      simp only [Option.filter]
      rw [if_pos (by simp)]
      rfl
    refine ⟨hi, (acq_held (by decide) ?_).1⟩
    rw [c]
    exact hi
  · have hg : goneS w [(⟨1, l, l⟩ : Sn)] = [1] := by
      unfold goneS
      rw [List.filter_cons, if_pos (by unfold overS; simp; omega)]
      rfl
    have hi : isN S3.nodes (ownK xB) = false := by
      obtain ⟨d, hd, ho, _⟩ := h.own
      rw [← look_is, hlook, hd, hg]
      simp only [Option.filter]
      rw [if_neg (by simp [ho])]
      rfl
    have hep : Go.Proofs.YtcbpppdmkhpkkaaGreat.epB S3 xB = 1 := by
      obtain ⟨d, hd, ho, hv⟩ := h.ep
      unfold Go.Proofs.YtcbpppdmkhpkkaaGreat.epB
      rw [← look_get, hlook, hd, hg]
      simp only [Option.filter]
      rw [if_pos (by simp [ho])]
      exact hv
    obtain ⟨S4, hS4⟩ : ∃ S4, S4 = doS S3 (opnC l) := ⟨_, rfl⟩
    rw [← hS4] at hM4 c ⊢
    have hn4 : S4.nodes = S3.nodes := by rw [c]
    have hlv : liveS S4.ses 2 S4.now = true := by
      rw [live_iff hM4.srt, c]
      exact ⟨⟨S3.last + 1, S3.now + l, l⟩, by simp, by show S3.last + 1 = 2; rw [hlast, h.last], by show S3.now < S3.now + l; omega⟩
    obtain ⟨e1, e2, _⟩ := acq_good (S := S4) (ses := 2) (broker := 6) (b := xB) hM4 (by rw [hn4]; exact fun d hd => h.ver d (hsub d hd)) (by rw [hn4]; have := h.few; omega) (by decide) (by decide) (by rw [exp_live (i := 1), hlv]; rfl) (by rw [hn4]; exact hi)
    refine ⟨hi, e1, ?_⟩
    rw [e2]
    have : Go.Proofs.YtcbpppdmkhpkkaaGreat.epB S4 xB = 1 := by
      have e : Go.Proofs.YtcbpppdmkhpkkaaGreat.epB S4 xB = Go.Proofs.YtcbpppdmkhpkkaaGreat.epB S3 xB := by unfold Go.Proofs.YtcbpppdmkhpkkaaGreat.epB; rw [hn4]
      rw [e, hep]
    rw [this]
end Go.Proofs.YtcbpppdmkhpkkaaGreat
