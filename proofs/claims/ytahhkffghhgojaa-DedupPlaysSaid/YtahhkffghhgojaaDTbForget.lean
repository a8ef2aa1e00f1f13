/- Contract of the document's Forget. -/
import Derived.Test.YtahhkffghhgojaaCA
import Derived.Deep.DeepCutAuto
import Derived.Deep.CutBlock
namespace Go.Proofs.Ytahhkffghhgojaa
open Go.RowKit
set_option maxRecDepth 100000

def FoRel (w : World) (p : Nat) (F : List Nat) (X : List Ln) (u2 u3 : Value) (wr : World) : Prop :=
  ∃ k a' c', k ≤ X.length ∧ u2 = .slice a' (forX (X.take k)).length c' ∧ u3 = .int .i64 (k : Nat) ∧ LnOwn wr w.heap.size 42 (p :: F) a' c' (forX (X.take k)) ∧ Frm [] w wr

set_option maxRecDepth 100000 in
set_option maxHeartbeats 4000000 in
theorem rfor_any {w : World} {B p : Nat} {F : List Nat} {a : Option Addr} {cap : Nat} {X : List Ln} (h : Tb w B p F a cap X) (hF : ∀ x ∈ F, x < w.heap.size) :
    Calls Try.prog 14 #[.pointer (some ⟨p, 0, none⟩)] w (fun r w' => r = .returned (.tuple #[]) ∧ TbTo w w' B p F a (forX X)) := by
  obtain ⟨i0, hi, hz0, hz1, hz2⟩ := info_parts infoLn
  have HI := Lib.hid hi; clear hi
  have HZ0 := Lib.hid hz0; clear hz0
  have HZ1 := Lib.hid hz1; clear hz1
  have HZ2 := Lib.hid hz2; clear hz2
  obtain ⟨n, hnn⟩ : ∃ n, n = X.length := ⟨_, rfl⟩
  have hn : n ≤ 16 := by have := h.few; omega
  have HH := Lib.hid h
  have HN := Lib.hid hnn
  have HPF : Hid (∀ x ∈ p :: F, x < w.heap.size) := Lib.hid fun x hx => by
    rcases List.mem_cons.1 hx with rfl | h1
    · exact HH.out.tab.lt
    · exact hF x h1
  clear h hF hnn
  go_enter Try.func14, Try.ntmps14
  go_wp2
  go_loopw [2, 3] (fun u2 u3 wr => FoRel w p F X u2 u3 wr) (fun _ u3 _ => n - (intOf u3).toNat)
  case atStart => exact ⟨0, none, 0, Nat.zero_le _, rfl, rfl, LnOwn.nil _ _ _ _, Frm.refl _ _⟩
  case round =>
    obtain ⟨k, a', c', hk, rfl, rfl, hown, hf⟩ := hrel
    have HO := Lib.hid hown; clear hown
    have HF := Lib.hid hf; clear hf
    have T := HF.out.whole HH.out.tab (by simp)
    have c0 := T.cell 0
    rw [← HN.out] at c0
    simp at c0
    have hYk := forX_len (X.take k)
    rw [List.length_take] at hYk
    by_cases hlt : k < n
    · have hkL : k < X.length := by have := HN.out; omega
      obtain ⟨b, off, rfl, p0, p1, p2, p3, p4, hfit⟩ := (HH.out.row.sl.keep (F' := p :: F) HF.out (by simp) (fun x h => .inl h)).at hkL
      have hst := forX_take hkL
      obtain ⟨Y, hY⟩ : ∃ Y, Y = forX (X.take k) := ⟨_, rfl⟩
      rw [← hY] at HO hst hYk ⊢
      obtain ⟨m, hm⟩ : ∃ m, m = Y.length := ⟨_, rfl⟩
      rw [← hm] at hYk ⊢
      have HM := Lib.hid hm; clear hm
      obtain ⟨x, hx⟩ : ∃ x, x = X.getD k default := ⟨_, rfl⟩
      rw [← hx] at p0 p1 p2 p3 p4 hst hfit
      obtain ⟨xn, xt, xd, xl, xe⟩ := x
      simp only at p0 p1 p2 p3 p4 hst
      have HST := Lib.hid hst
      have HFIT := Lib.hid hfit
      have HKL := Lib.hid hkL
      clear hx hst hfit hY hkL hk T
      obtain ⟨y, hy⟩ : ∃ y, y = wr.heap.size := ⟨_, rfl⟩
      obtain ⟨V, hV⟩ : ∃ V, V = wr.alloc (.cells #[.string xn, .int .u64 (xt : Nat), .int .u64 (xd : Nat), .int .u64 (xl : Nat), .int .u64 (xe : Nat)] 42) := ⟨_, rfl⟩
      have FV : Hid (Frm [] wr V) := Lib.hid (by rw [hV]; exact (Frm.refl _ _).alloc _)
      have BV : Hid (Whole V y 42 #[.string xn, .int .u64 (xt : Nat), .int .u64 (xd : Nat), .int .u64 (xl : Nat), .int .u64 (xe : Nat)]) := Lib.hid (by rw [hV, hy]; exact Whole.made _ _ _)
      have YW : Hid (y = wr.heap.size) := Lib.hid hy
      go_upto_region 5 with (fail)
      rw [← hV, ← hy]
      have HV := Lib.hid hV; clear hV hy
      have x2 := BV.out.cell 2
      have x1 := BV.out.cell 1
      have x1f := BV.out.free 1
      simp at x2 x1
      obtain ⟨V2, hV2⟩ : ∃ V2, V2 = V.setCell ⟨y, 1, none⟩ (.int .u64 (xd : Nat)) := ⟨_, rfl⟩
      have FV2 : Hid (Frm [] wr V2) := Lib.hid (by rw [hV2]; exact FV.out.trans ((Frm.refl [y] V).setCell (.inl (by simp)) _) (by simp) (fun x hx => .inr (by have := YW.out; simp at hx; omega)))
      have BV2 : Hid (Whole V2 y 42 #[.string xn, .int .u64 (xd : Nat), .int .u64 (xd : Nat), .int .u64 (xl : Nat), .int .u64 (xe : Nat)]) := Lib.hid (by rw [hV2]; simpa using BV.out.put 1 (.int .u64 (xd : Nat)))
      go_upto_region 6 with (fail)
      rw [← hV2]
      have HV2 := Lib.hid hV2; clear hV2 x1 x2 x1f
      have x0 := BV2.out.cell 0
      have x1 := BV2.out.cell 1
      have x2 := BV2.out.cell 2
      have x3 := BV2.out.cell 3
      have x4 := BV2.out.cell 4
      simp at x0 x1 x2 x3 x4
      have O2 : Hid (LnOwn V2 w.heap.size 42 (p :: F) a' c' Y) := Lib.hid (HO.out.keep FV2.out (by simp) (fun x hx => .inl hx))
      have F2 : Hid (Frm [] w V2) := Lib.hid (HF.out.trans FV2.out (by simp) (by simp))
      by_cases hd : 0 < xd
      · have hd' : (0 : Int) < (xd : Int) := by omega
        have ST2 : Hid (forX (X.take (k + 1)) = Y ++ [⟨xn, xd, xd, xl, xe⟩]) := Lib.hid (by rw [HST.out, if_pos hd]; rfl)
        have OWN : Hid ((V2.alloc (.cells #[.string xn, .int .u64 (xd : Nat), .int .u64 (xd : Nat), .int .u64 (xl : Nat), .int .u64 (xe : Nat)] 42)).ownsRow w.heap.size 42 5 (.slice a' m c') m (lnc Y)) := Lib.hid (by
          have := (O2.out.keep (S := []) (F' := []) ((Frm.refl [] V2).alloc (.cells #[.string xn, .int .u64 (xd : Nat), .int .u64 (xd : Nat), .int .u64 (xl : Nat), .int .u64 (xe : Nat)] 42)) (by simp) (by simp)).own
          rwa [← HM.out] at this)
        have ONE : Hid (ValsAt (V2.alloc (.cells #[.string xn, .int .u64 (xd : Nat), .int .u64 (xd : Nat), .int .u64 (xl : Nat), .int .u64 (xe : Nat)] 42)) (some ⟨V2.heap.size, 0, none⟩) (lnc [⟨xn, xd, xd, xl, xe⟩])) := Lib.hid (lncvals_one V2 ⟨xn, xd, xd, xl, xe⟩ 42)
        have hbz : w.heap.size ≤ (V2.alloc (.cells #[.string xn, .int .u64 (xd : Nat), .int .u64 (xd : Nat), .int .u64 (xl : Nat), .int .u64 (xe : Nat)] 42)).heap.size := by have := F2.out.size; simp; omega
        have hfit1 : m + 1 ≤ 1000000000 := by omega
        go_wp2_with (at_builtin; refine wpList_appS (by rfl) (.tmp 27) (.tmp 29) 27 rfl w.heap.size 42 i0 (.agg #[.string ⟨#[]⟩, .int .u64 0, .int .u64 0, .int .u64 0, .int .u64 0]) 5 48 Try.underlying27 HI.out HZ0.out rfl (by decide) HZ1.out HZ2.out (by decide) (.slice a' m c') m _ rfl OWN.out _ 1 1 _ rfl ONE.out rfl (lnc_one _) (fun h => by cases h) hfit1 hbz ?_)
        intro a3 c3 w3 happ
        have AL := (Frm.refl [] V2).alloc (.cells #[.string xn, .int .u64 (xd : Nat), .int .u64 (xd : Nat), .int .u64 (xl : Nat), .int .u64 (xe : Nat)] 42)
        obtain ⟨g1, g2, g3, g4⟩ := (O2.out.keep (S := []) (F' := p :: F) AL (by simp) (fun x hx => .inl hx)).app (Y := [⟨xn, xd, xd, xl, xe⟩]) HM.out (by intro z hz; simp at hz; subst hz; exact ⟨HFIT.out.2.1, HFIT.out.2⟩) (m := 1) rfl (fun x hx => by have h1 := HPF.out x hx; have h2 := F2.out.size; simp; omega) happ
        have NREL : Hid (FoRel w p F X (.slice a3 (m + 1) c3) (.int .i64 ((k + 1 : Nat) : Int)) w3) := Lib.hid (by
          refine ⟨k + 1, a3, c3, HKL.out, by rw [ST2.out, ← g4], rfl, by rw [ST2.out]; exact g1, ?_⟩
          exact (F2.out.trans AL (U := []) (by simp) (by simp)).trans g2 (by simp) (fun x hx => .inr (O2.out.blk_lt x hx).1))
        clear happ g1 g2 g3 g4 AL hbz OWN ONE x0 x1 x2 x3 x4
        go_wp2
        go_roundw
        case rel => exact NREL.out
        case measure => simp [intOf]; omega
      · have hd' : ¬ (0 : Int) < (xd : Int) := by omega
        have ST2 : Hid (forX (X.take (k + 1)) = Y) := Lib.hid (by rw [HST.out, if_neg hd, List.append_nil])
        have NREL : Hid (FoRel w p F X (.slice a' m c') (.int .i64 ((k + 1 : Nat) : Int)) V2) := Lib.hid (by
          refine ⟨k + 1, a', c', HKL.out, by rw [ST2.out, HM.out], rfl, by rw [ST2.out]; exact O2.out, F2.out⟩)
        go_wp2
        go_roundw
        case rel => exact NREL.out
        case measure => simp [intOf]; omega
    · obtain rfl : k = n := by have := HN.out; omega
      have hkx : X.take k = X := List.take_of_length_le (by have := HN.out; omega)
      rw [hkx] at HO ⊢
      obtain ⟨m, hm⟩ : ∃ m, m = (forX X).length := ⟨_, rfl⟩
      rw [← hm]
      have HM := Lib.hid hm; clear hm hkx
      have f0 := T.free 0
      have EH : Hid (TbTo w (wr.setCell ⟨p, 0, none⟩ (.slice a' m c')) B p F a (forX X)) := Lib.hid (by
        have hs3 : Frm [p] wr (wr.setCell ⟨p, 0, none⟩ (.slice a' m c')) := (Frm.refl _ _).setCell (.inl (by simp)) _
        have ht := T.put 0 (.slice a' m c')
        have o3 := HO.out.keep (F' := p :: F) hs3 (fun x hx => .inl (by simp at hx; simp [hx])) (fun x hx => .inl hx)
        refine ⟨a', c', ⟨by rw [← HM.out]; simpa using ht, ⟨?_, o3.fits, o3.away⟩, HH.out.hp, HH.out.out, by have h1 := forX_len X; have h2 := HH.out.few; omega⟩, (HF.out.trans hs3 (U := p :: blk a) (by simp) (fun x hx => .inl (by simp at hx; simp [hx]))), fun g hg => .inr (HO.out.blk_lt g hg).1⟩
        refine ⟨o3.own.1, ?_⟩
        rcases o3.own.2 with h2 | ⟨g, cp, cur, hv, hg, r⟩
        · exact .inl h2
        · exact .inr ⟨g, cp, cur, hv, by have := HH.out.hp; have := HH.out.tab.lt; omega, r⟩)
      go_wp2
      go_end0
      exact ⟨rfl, EH.out⟩
end Go.Proofs.Ytahhkffghhgojaa
