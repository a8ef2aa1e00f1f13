/- The document's Ack and AckAll in one word: a code, and a cursor that is known by it. -/
import Derived.Test.YtghadpihmhaepaaZCuAck
import Derived.Test.YtghadpihmhaepaaZCuSame
namespace Go.Proofs.Ytghadpihmhaepaa
open Go.RowKit
set_option maxRecDepth 100000

def RkEnd (w : World) (F : List Nat) (code : Nat) (T : Crs → Prop) (e : Ending) (w' : World) : Prop := ∃ (D : Ps) (Zd : List Hx) (ad : Option Addr) (dn cd : Nat), e = .returned (.tuple #[crsV D ad dn cd, .int .i64 (code : Nat)]) ∧ Hid (dn = Zd.length ∧ HxL w' F ad Zd) ∧ Hid (T ⟨D, hels Zd⟩) ∧ Hid (Frm [] w w')
theorem rk_no {w w' : World} {F : List Nat} {code : Nat} {T : Crs → Prop} {e : Ending} (h : NoEnd w (code : Nat) e w') (hT : T noCrs) : RkEnd w F code T e w' := by
  obtain ⟨rfl, hf⟩ := h
  exact ⟨⟨0, 0⟩, [], none, 0, 0, rfl, Lib.hid ⟨rfl, HxL.nil _ _ _⟩, hT, hf⟩
theorem rk_yes {w w' : World} {F : List Nat} {X : List Ld} {o : Nat} {m : Ps} {H : List Hel} {T : Crs → Prop} {e : Ending} (h : RkYes w F X o m H e w') (hT : ∀ M, Reach X o H m M → Stop X o H M → T ⟨M, leftH M H⟩) : RkEnd w F 0 T e w' := by
  obtain ⟨M, Z, a, zn, c, rfl, h1, h2, h3, h4, h5⟩ := h
  refine ⟨M, Z, a, zn, c, rfl, Lib.hid ⟨h1.out, h4.out⟩, Lib.hid ?_, h5⟩
  rw [h3.out]; exact hT M h2.out.1 h2.out.2
theorem crack14_any {al : Option Addr} {nl cl : Nat} {X : List Ld} {o : Nat} {m : Ps} {a : Option Addr} {n cap : Nat} {F : List Nat} {Y : List Hx} {b : Nat} {p : Ps} {w : World} (hx : Lds14 w [] al nl X o) (h : Cin w F m a n cap Y b) (hb : b ≤ 100) (hF : ∀ x ∈ F, x < w.heap.size) (hpf : p.fits) :
    Calls Try.prog 14 #[.slice al nl cl, .int .u64 (o : Nat), crsV m a n cap, p.val] w (RkEnd w F (codeA X o ⟨m, hels Y⟩ p) (ToA X o ⟨m, hels Y⟩ p)) := by
  refine crack_any al nl cl X o m a n cap F Y p w hx.l hx.len (by have := hx.few; omega) (by have := hx.tot; omega) (by have := hx.open5; omega) hx.fits h.hl h.len (by have := h.few; omega) ⟨h.ok.srt, h.ok.rgs⟩ (fun x hx => by have := h.bd x hx; omega) hF h.me hpf _ (fun h1 e w' h2 => ?_) (fun h1 h1' e w' h2 => ?_) (fun h1 h1' H1 hadd e w' h2 => ?_)
  · have e1 : codeA X o ⟨m, hels Y⟩ p = 30 := by unfold codeA; rw [if_pos h1]
    rw [e1]
    exact rk_no h2 ⟨fun h => (by rw [e1] at h; cases h), fun _ => rfl⟩
  · have e1 : codeA X o ⟨m, hels Y⟩ p = 31 := by unfold codeA; rw [if_neg (by rw [h1]; decide), if_pos h1']
    rw [e1]
    exact rk_no h2 ⟨fun h => (by rw [e1] at h; cases h), fun _ => rfl⟩
  · have e1 : codeA X o ⟨m, hels Y⟩ p = 0 := by unfold codeA; rw [if_neg (by rw [h1]; decide), if_neg h1']
    rw [e1]
    exact rk_yes h2 (fun M hr hs => ⟨fun _ => ⟨H1, hadd, hr, hs, rfl⟩, fun h => absurd e1 h⟩)
theorem crall14_any {al : Option Addr} {nl cl : Nat} {X : List Ld} {o : Nat} {m : Ps} {a : Option Addr} {n cap : Nat} {F : List Nat} {Y : List Hx} {b : Nat} {p : Ps} {w : World} (hx : Lds14 w [] al nl X o) (h : Cin w F m a n cap Y b) (hb : b ≤ 300) (hF : ∀ x ∈ F, x < w.heap.size) (hpf : p.fits) :
    Calls Try.prog 17 #[.slice al nl cl, .int .u64 (o : Nat), crsV m a n cap, p.val] w (RkEnd w F (codeL X o ⟨m, hels Y⟩ p) (ToL X o ⟨m, hels Y⟩ p)) := by
  refine crackall_any al nl cl X o m a n cap F Y p w hx.l hx.len (by have := hx.few; omega) (by have := hx.tot; omega) h.hl h.len (by have := h.few; omega) (h.rgs (by omega)) h.ok.srt hF hpf (fun h1 => has_fit hx.fits (by have := hx.open5; omega) h1) _ (fun h1 e w' h2 => ?_) (fun h1 h1' e w' h2 => ?_) (fun h1 h1' e w' h2 => ?_)
  · have e1 : codeL X o ⟨m, hels Y⟩ p = 30 := by unfold codeL; rw [if_pos h1]
    rw [e1]
    exact rk_no h2 ⟨fun h => (by rw [e1] at h; cases h), fun _ => rfl⟩
  · have e1 : codeL X o ⟨m, hels Y⟩ p = 31 := by unfold codeL; rw [if_neg (by rw [h1]; decide), if_pos h1']
    rw [e1]
    exact rk_no h2 ⟨fun h => (by rw [e1] at h; cases h), fun _ => rfl⟩
  · have e1 : codeL X o ⟨m, hels Y⟩ p = 0 := by unfold codeL; rw [if_neg (by rw [h1]; decide), if_neg h1']
    rw [e1]
    obtain ⟨M, Z, a, c, rfl, hr, hs, hz, hl, hf⟩ := h2
    refine ⟨M, Z, a, _, c, rfl, Lib.hid ⟨rfl, hl⟩, Lib.hid ?_, hf⟩
    rw [hz, tightH_left h.ok.srt (fun x hx => (h.ok.rgs x hx).1)]
    exact ⟨fun _ => ⟨hr, hs, rfl⟩, fun h => absurd e1 h⟩
theorem toA_uniq {X : List Ld} {o : Nat} {c : Crs} {p : Ps} {A B : Crs} (h : ToA X o c p A) (k : ToA X o c p B) : A = B := by
  by_cases h0 : codeA X o c p = 0
  · exact (h.1 h0).uniq (k.1 h0)
  · rw [h.2 h0, k.2 h0]
theorem toL_uniq {X : List Ld} {o : Nat} {c : Crs} {p : Ps} {A B : Crs} (h : ToL X o c p A) (k : ToL X o c p B) : A = B := by
  by_cases h0 : codeL X o c p = 0
  · exact (h.1 h0).uniq (k.1 h0)
  · rw [h.2 h0, k.2 h0]
/-- Same of two that are one. -/
theorem same14_any {w : World} {F F' : List Nat} {m m' : Ps} {a a' : Option Addr} {n cap n' cap' b : Nat} {Z Z' : List Hx} (h : Cin w F m a n cap Z b) (hb : b ≤ 400) (h' : n' = Z'.length ∧ HxL w F' a' Z') (he : (⟨m, hels Z⟩ : Crs) = ⟨m', hels Z'⟩) :
    Calls Try.prog 15 #[crsV m a n cap, crsV m' a' n' cap'] w fun e w' => e = .returned (.bool true) ∧ Frm [] w w' := by
  injection he with he1 he2
  have hl : Z.length = Z'.length := by rw [← hels_length, he2, hels_length]
  have sm := h.small hb
  refine (crsame_any m m' a a' n cap n' cap' F F' Z Z' w h.hl h'.2 h.len h'.1 sm.1 (by rw [h'.1, ← hl, ← h.len]; exact sm.1) sm.2 (fun x hx => ?_)).mono fun e w' hh => BoolOf.yes hh (by rw [he1, he2])
  have hm : x.t ∈ hels Z := by rw [he2]; exact List.mem_map.2 ⟨x, hx, rfl⟩
  have := h.bd _ hm
  omega
end Go.Proofs.Ytghadpihmhaepaa
