/- Contract of the reference's Drop. -/
import Derived.Test.YtchhbmhnjknhaaaRtGet
namespace Go.Proofs.Ytchhbmhnjknhaaa
open Go.RowKit

theorem Try.info44 : (Try.prog.info? 44).map (fun i => (i.zero, i.size, i.bytes)) = some (some (.agg #[.string ⟨#[]⟩, .slice none 0 0, .int .u64 0, .int .u64 0]), 4, 56) := by kernel_rfl
theorem sizeN : ∀ w, (Go.sizeOf 44).run Try.prog w = .ok 4 w := fun _ => by kernel_rfl

/-- The nodes that stay when an owner's go. -/
def keepO (o : Nat) (X : List Nx) : List Nx := X.filter (fun x => decide (o = 0) || decide (x.t.own ≠ o))
theorem keepO_take {o : Nat} {X : List Nx} {k : Nat} (h : k < X.length) : keepO o (X.take (k + 1)) = keepO o (X.take k) ++ if o = 0 ∨ (X.getD k default).t.own ≠ o then [X.getD k default] else [] := by
  have e : X.getD k default = X[k] := by simp [h]
  rw [e]
  unfold keepO
  rw [List.take_succ_eq_append_getElem h, List.filter_append]
  congr 1
  by_cases h1 : o = 0 ∨ X[k].t.own ≠ o
  · rw [if_pos h1, List.filter_cons, if_pos (by simpa using h1)]; rfl
  · rw [if_neg h1, List.filter_cons, if_neg (by simpa using h1)]; rfl
theorem keepO_sub {o : Nat} {X : List Nx} : ∀ x ∈ keepO o X, x ∈ X := fun _ hx => (List.mem_filter.1 hx).1
theorem keepO_len (o : Nat) (X : List Nx) : (keepO o X).length ≤ X.length := List.length_filter_le _ _

/-- What a change of the tree leaves. -/
def RtTo (w w' : World) (B p : Nat) (F : List Nat) (X' : List Nx) : Prop := ∃ a' c', Rt w' B p F a' c' X' ∧ Frm [p] w w' ∧ ∀ g ∈ blk a', w.heap.size ≤ g
def RtEnd (w : World) (B p : Nat) (F : List Nat) (X' : List Nx) (v : Value) (e : Ending) (w' : World) : Prop := e = .returned v ∧ RtTo w w' B p F X'

/-- A list of nodes is stored in the tree. -/
theorem Rt.store {w w1 : World} {B p : Nat} {F : List Nat} {a a' : Option Addr} {cap c' : Nat} {X Y : List Nx} (h : Rt w B p F a cap X) (hf : Frm [] w w1) (hr : NOwn w1 w.heap.size 44 (p :: F) a' c' Y) (hl : Y.length ≤ 256) :
    RtTo w (w1.setCell ⟨p, 0, none⟩ (.slice a' Y.length c')) B p F Y := by
  have ht := (hf.whole h.tree (by simp)).put 0 (.slice a' Y.length c')
  have hs : Frm [p] w1 (w1.setCell ⟨p, 0, none⟩ (.slice a' Y.length c')) := (Frm.refl _ _).setCell (.inl (by simp)) _
  have hr2 := hr.keep (F' := p :: F) hs (fun x hx => .inl (by simp at hx; simp [hx])) (fun x hx => .inl hx)
  refine ⟨a', c', ⟨by simpa using ht, ⟨?_, hr2.ok, hr2.away⟩, h.hp, h.out, hl⟩, (hf.weak (by simp)).trans hs (fun x hx => hx) (fun x hx => .inl hx), fun g hg => (hr.blk_lt g hg).1⟩
  refine ⟨hr2.own.1, ?_⟩
  rcases hr2.own.2 with h2 | ⟨g, cp, cur, hv, hg, r⟩
  · exact .inl h2
  · exact .inr ⟨g, cp, cur, hv, by have := h.hp; have := h.tree.lt; omega, r⟩

def DrRel (w : World) (p : Nat) (F : List Nat) (o : Nat) (X : List Nx) (u4 u5 : Value) (wr : World) : Prop :=
  ∃ k a' c', k ≤ X.length ∧ u4 = .slice a' (keepO o (X.take k)).length c' ∧ u5 = .int .i64 (k : Nat) ∧ NOwn wr w.heap.size 44 (p :: F) a' c' (keepO o (X.take k)) ∧ Frm [] w wr

theorem nvals_one (w : World) (x : Nx) (t : TypeId) : ValsAt (w.alloc (.cells #[.string x.t.k, .slice x.a x.t.v.length x.c, .int .u64 (x.t.ver : Nat), .int .u64 (x.t.own : Nat)] t)) (some ⟨w.heap.size, 0, none⟩) (nc [x]) := by
  refine .inr ⟨_, _, rfl, fun i u hu => ?_⟩
  rw [(Whole.made w t _).cell, Nat.zero_add]
  simp only [nc, List.flatMap_cons, List.flatMap_nil, List.append_nil, Nx.cells] at hu
  rw [← hu]
  simp

set_option maxRecDepth 100000 in
set_option maxHeartbeats 2000000 in
theorem rdrop_any {w : World} {B p : Nat} {F : List Nat} {a : Option Addr} {cap : Nat} {X : List Nx} (o : Nat) (h : Rt w B p F a cap X) (hF : ∀ x ∈ F, x < w.heap.size) :
    Calls Try.prog 18 #[.pointer (some ⟨p, 0, none⟩), .int .u64 (o : Nat)] w (RtEnd w B p F (keepO o X) (.tuple #[])) := by
  obtain ⟨i0, hi, hz0, hz1, hz2⟩ := info_parts Try.info44
  have HI := Lib.hid hi; clear hi
  have HZ0 := Lib.hid hz0; clear hz0
  have HZ1 := Lib.hid hz1; clear hz1
  have HZ2 := Lib.hid hz2; clear hz2
  have hn := h.few
  have HH := Lib.hid h; clear h
  have HPF : Hid (∀ x ∈ p :: F, x < w.heap.size) := Lib.hid fun x hx => by
    rcases List.mem_cons.1 hx with rfl | h1
    · exact HH.out.tree.lt
    · exact hF x h1
  clear hF
  obtain ⟨n, hnn⟩ : ∃ n, n = X.length := ⟨_, rfl⟩
  rw [← hnn] at hn
  have HN := Lib.hid hnn; clear hnn
  go_enter Try.func18, Try.ntmps18
  go_wp2
  go_loopw [4, 5] (fun u4 u5 wr => DrRel w p F o X u4 u5 wr) (fun _ u5 _ => n - (intOf u5).toNat)
  case atStart => exact ⟨0, none, 0, Nat.zero_le _, rfl, rfl, NOwn.nil _ _ _ _, Frm.refl _ _⟩
  case round =>
    obtain ⟨k, a', c', hk, rfl, rfl, hown, hf⟩ := hrel
    have HO := Lib.hid hown; clear hown
    have HF := Lib.hid hf; clear hf
    have c0 := (HF.out.whole HH.out.tree (by simp)).cell 0
    rw [← HN.out] at c0
    simp at c0
    obtain ⟨m, hm⟩ : ∃ m, m = (keepO o (X.take k)).length := ⟨_, rfl⟩
    have hmk : m ≤ 256 := by have h1 := keepO_len o (X.take k); rw [List.length_take] at h1; have := HN.out; omega
    rw [← hm]
    have HM := Lib.hid hm; clear hm
    by_cases hlt : k < n
    · have hkL : k < X.length := by have := HN.out; omega
      obtain ⟨b, off, rfl, p0, p1, p2, p3, _⟩ := (HH.out.row.nl.keep (F' := p :: F) HF.out (by simp) (fun x h => .inl h)).at hkL
      have ok := HH.out.row.nl.ok (X.getD k default) (by simp [hkL])
      have hst := keepO_take (o := o) hkL
      obtain ⟨x, hx⟩ : ∃ x, x = X.getD k default := ⟨_, rfl⟩
      rw [← hx] at p0 p1 p2 p3 ok hst
      obtain ⟨⟨xk, xv, xver, xown⟩, xa, xc⟩ := x
      simp only at p0 p1 p2 p3 hst
      obtain ⟨xm, hxm⟩ : ∃ xm, xm = xv.length := ⟨_, rfl⟩
      rw [← hxm] at p1
      have HKL := Lib.hid hkL; clear hkL
      have OK := Lib.hid ok; clear ok
      have HXM := Lib.hid hxm; clear hxm
      clear hx
      by_cases hst2 : o = 0 ∨ xown ≠ o
      · have hst3 : (o = 0 ∨ (o ≠ 0 ∧ xown ≠ o)) := by omega
        rw [if_pos hst2] at hst
        have HST := Lib.hid hst
        clear hst hst2
        obtain ⟨w2, hw2⟩ : ∃ w2, w2 = wr.alloc (.cells #[.string xk, .slice xa xm xc, .int .u64 (xver : Nat), .int .u64 (xown : Nat)] 44) := ⟨_, rfl⟩
        have hf2 : Frm [] wr w2 := by rw [hw2]; exact (Frm.refl _ _).alloc _
        have hv2 : ValsAt w2 (some ⟨wr.heap.size, 0, none⟩) (nc [⟨⟨xk, xv, xver, xown⟩, xa, xc⟩]) := by
          rw [hw2, HXM.out]; exact nvals_one wr ⟨⟨xk, xv, xver, xown⟩, xa, xc⟩ _
        have ho2 := HO.out.keep (F' := p :: F) hf2 (by simp) (fun x h => .inl h)
        have hok2 : NOk w2 (blk a' ++ (p :: F)) [⟨⟨xk, xv, xver, xown⟩, xa, xc⟩] := fun y hy => by
          simp at hy
          subst hy
          refine OK.out.keep (HF.out.trans hf2 (U := []) (by simp) (by simp)) (by simp) (fun x hx => ?_)
          rcases List.mem_append.1 hx with h1 | h1
          · exact .inr (HO.out.blk_lt x h1).1
          · exact .inl h1
        have hown2 := ho2.own
        rw [← HM.out] at hown2
        have HO2 := Lib.hid ho2
        have HW := Lib.hid hown2
        have HV := Lib.hid hv2
        have HOK := Lib.hid hok2
        have HF2 := Lib.hid (HF.out.trans hf2 (U := []) (by simp) (by simp))
        have HW2 := Lib.hid hw2
        have hfit : m + 1 ≤ 1000000000 := by omega
        clear hw2 hf2 hv2 ho2 hok2 hown2
        have hb : ((o : Int) == 0) = true ∨ (((o : Int) == 0) = false ∧ ((xown : Int) != (o : Int)) = true) := by
          rcases hst3 with h | ⟨h, h2⟩
          · exact .inl (by simp; omega)
          · exact .inr ⟨by simp; omega, by simp; omega⟩
        clear hst3
        rcases hb with h3 | ⟨h3, h4⟩
        all_goals
          go_wp2_with (at_builtin; rw [← HW2.out]; refine wpList_appS (by rfl) (.tmp 29) (.tmp 37) 27 rfl w.heap.size 44 i0 (.agg #[.string ⟨#[]⟩, .slice none 0 0, .int .u64 0, .int .u64 0]) 4 56 Try.underlying27 HI.out HZ0.out rfl (by decide) HZ1.out HZ2.out (by decide) (.slice a' m c') m _ rfl HW.out _ 1 1 _ rfl HV.out rfl (nc_one _) (fun h => by cases h) hfit HF2.out.size ?_)
          intro a3 c3 w3 happ
          obtain ⟨g1, g2, g3, g4⟩ := HO2.out.app HM.out HOK.out rfl (fun x hx => Nat.lt_of_lt_of_le (HPF.out x hx) HF2.out.size) happ
          have HG1 := Lib.hid g1
          have HG4 := Lib.hid g4
          have HF3 := Lib.hid (HF2.out.trans g2 (U := []) (by simp) (fun x hx => .inr (HO2.out.blk_lt x hx).1))
          clear happ g1 g2 g3 g4
          go_wp2
          go_round
          case rel => exact ⟨k + 1, a3, c3, HKL.out, by rw [HST.out, ← HG4.out]; rfl, by go_num, by rw [HST.out]; exact HG1.out, HF3.out⟩
          case measure => simp [intOf]; omega
      · have h3 : o ≠ 0 := by omega
        have h4 : xown = o := by omega
        rw [if_neg hst2, List.append_nil] at hst
        have HST := Lib.hid hst
        clear hst hst2
        subst h4
        have h5 : ((xown : Int) == 0) = false := by simp; omega
        clear h3
        go_wp2
        go_round
        case rel => exact ⟨k + 1, a', c', HKL.out, by rw [HST.out, ← HM.out], by go_num, by rw [HST.out]; exact HO.out, HF.out⟩
        case measure => simp [intOf]; omega
    · have hkx : X.take k = X := List.take_of_length_le (by have := HN.out; omega)
      have ho := HO.out
      have hm := HM.out
      rw [hkx] at ho hm
      have HO2 := Lib.hid (Rt.store HH.out HF.out ho (by omega))
      rw [← hm] at HO2
      have f0 := (HF.out.whole HH.out.tree (by simp)).free 0
      clear ho hm hkx HO HM hk
      go_wp2
      go_end0
      exact ⟨rfl, HO2.out⟩
end Go.Proofs.Ytchhbmhnjknhaaa
