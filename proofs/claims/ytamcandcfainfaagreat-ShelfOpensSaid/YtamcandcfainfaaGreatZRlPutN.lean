/- Contract of the document's put, of a new entry. -/
import Derived.Test.YtamcandcfainfaaGreatMX
import Derived.Test.YtamcandcfainfaaGreatZRlPut
import Derived.Test.YtamcandcfainfaaGreatZOwnVals
import Derived.Deep.RegionLaw
import Derived.Deep.QuietTactic
import Derived.Deep.Cut
import Derived.Deep.CutRange
import Derived.Deep.DeepCutAuto
import Derived.BigQuiet
import Derived.Outline
namespace Go.Proofs.YtamcandcfainfaaGreat
open Go.RowKit
set_option maxRecDepth 100000

/-- The one entry that is put, in a block b1 of the call's own. -/
def OneP (w wz wx : World) (av : Option Addr) (cv b1 k : Nat) (d : List Nat) : Prop :=
  wx.ownsRow w.heap.size 57 2 (.slice (some ⟨b1, 0, none⟩) 1 1) 1 (ic [⟨(k, d), av, cv⟩]) ∧ Bytes wx av d ∧ (∀ x, av = some x → w.heap.size ≤ x.block) ∧ (av = none → cv = 0) ∧ Frm [] wz wx ∧ wz.heap.size ≤ b1 ∧ (d ≠ [] → ∀ x, av = some x → x.block < b1)
theorem one_made {w wz z w2 : World} {v : Value} {av : Option Addr} {cv xn k : Nat} {d : List Nat} (hz : Frm [] w wz) (hxn : xn = d.length) (h8 : ∀ x ∈ d, x < 256) (ha : App z w2 w.heap.size 5 v 0 xn [] d av cv) (hf : Frm [] wz w2) :
    OneP w wz (w2.alloc (.cells #[.int .u64 (k : Nat), .slice av xn cv] 57)) av cv w2.heap.size k d := by
  have ho := ha.own
  rw [Nat.zero_add, List.nil_append] at ho
  have hb := bytes_of_own (hxn ▸ ho) h8
  have hfa : Frm [] w2 (w2.alloc (.cells #[.int .u64 (k : Nat), .slice av xn cv] 57)) := (Frm.refl _ _).alloc _
  refine ⟨?_, hfa.bytes' hb.2.1 (by simp), fun x hx => (own_block_lt ho (g := x.block) (by rw [hx]; rfl)).1, hb.2.2, hf.trans hfa (by simp) (by simp), hf.size, fun hne x hx => bytes_lt hb.2.1 hne x hx⟩
  have h1 : (w2.alloc (.cells #[.int .u64 (k : Nat), .slice av xn cv] 57)).ownsRow w.heap.size 57 2 (.slice (some ⟨w2.heap.size, 0, none⟩) 1 1) 1 [.int .u64 (k : Nat), .slice av xn cv] := World.ownsRow_lit w2 _ 1 (Nat.le_trans hz.size hf.size) (by unfold maxLen; omega) rfl
  rw [hxn] at h1 ⊢
  exact h1

theorem sizeIt2 (w : World) : (Go.sizeOf 57).run Tryz.prog w = .ok 2 w := by kernel_rfl
/-- Of a row of entries: its capacity. -/
theorem own_caps {w : World} {B n c sz : Nat} {e : TypeId} {a : Option Addr} {xs : List Value} (h : w.ownsRow B e sz (.slice a n c) n xs) : n ≤ c ∧ (a = none → c = 0) := by
  rcases h.2 with ⟨hv, hl⟩ | ⟨g, c', cur, hv, _, _, h1, h2, _⟩
  · simp only [Value.slice.injEq] at hv
    rw [hl, hv.2.2]; exact ⟨Nat.le_refl _, fun _ => rfl⟩
  · simp only [Value.slice.injEq] at hv
    obtain ⟨rfl, _, rfl⟩ := hv
    exact ⟨h1, fun h => by cases h⟩
/-- What the cuts 'l[:t:t]', 'l[t:]' of a row are. -/
structure PutF (w : World) (a : Option Addr) (n c t : Nat) (X : List Ix) (a2 : Option Addr) (n2 c2 : Nat) : Prop where
  cut1 : ∀ z, (Instr.slice 80 (.slice a n c) none (some (.int .i64 (t : Nat))) (some (.int .i64 (t : Nat)))).run Tryz.prog z = .ok (.slice a t t) z
  cut2 : ∀ z, (Instr.slice 80 (.slice a n c) (some (.int .i64 (t : Nat))) none none).run Tryz.prog z = .ok (.slice a2 n2 c2) z
  v1 : ∀ z, Frm [] w z → ValsAt z a (ic (X.take t))
  v2 : ∀ z, Frm [] w z → ValsAt z a2 (ic (X.drop t))
  cn : a2 = none → c2 = 0
  an : a = none → t = 0
  l1 : (ic (X.take t)).length = t * 2
  l2 : (ic (X.drop t)).length = n2 * 2
  sum : t + (1 + n2) = n + 1
theorem putF {w : World} {B n c t : Nat} {a : Option Addr} {X : List Ix} (how : w.ownsRow B 57 2 (.slice a n c) n (ic X)) (hil : IL w [] a X) (hn : n = X.length) (ht : t ≤ n) : ∃ a2 n2 c2, PutF w a n c t X a2 n2 c2 := by
  have hcap := own_caps how
  refine ⟨cut2 a c t, n - t, c - t, fun z => run_head2m (P := Tryz.prog) Tryz.underlying80 sizeIt2 z a n c t t (Nat.le_refl _) (Nat.le_trans ht hcap.1), fun z => run_cut2 (P := Tryz.prog) Tryz.underlying80 sizeIt2 z a n c t (t : Int) rfl ht,
    fun z hz => ((hil.take t).keep (F' := []) hz (by simp) (by simp)).vals, fun z hz => ((hil.drop (by rw [← hn]; exact hcap.1) t).keep (F' := []) hz (by simp) (by simp)).vals, fun h0 => ?_, fun h0 => by have := hcap.2 h0; have := hcap.1; omega,
    by rw [ic_length, List.length_take, ← hn, Nat.min_eq_left ht], by rw [ic_length, List.length_drop, ← hn], by omega⟩
  have h1 := hcap.2
  unfold cut2 at h0
  split at h0
  · omega
  · have := h1 (by simpa using h0); omega
theorem one_grown {w wz wx w3 : World} {av : Option Addr} {cv b1 k : Nat} {d : List Nat} (ho : OneP w wz wx av cv b1 k d) (hz : Frm [] w wz) (hg : wx.drew.grownBy w3 (Value.slice (some ⟨b1, 0, none⟩) 1 1).ownBlock) : Frm [b1] wx w3 ∧ Frm [] w w3 := by
  obtain ⟨_, _, _, _, hfx, hb1, _⟩ := ho
  have hf : Frm [b1] wx w3 := ((Frm.refl [b1] wx).drew).grown hg (fun y hy => .inl (by simp [Value.ownBlock] at hy; simp [hy]))
  exact ⟨hf, (hz.trans hfx (U := []) (by simp) (by simp)).trans hf (by simp) (fun x hx => .inr (by simp at hx; subst hx; have := hz.size; omega))⟩
/-- The end of put of a new entry. -/
theorem rput_new_end {w wz wx w3 w4 : World} {B : Nat} {F : List Nat} {q g : Nat} {dv : Value} {Lc : Nat} {R : List Rl} {m i k t n b1 : Nat} {d : List Nat} {r : Rl} {av a4 : Option Addr} {cv c4 : Nat} (h : Rs w B F q dv (some ⟨g, 0, none⟩) Lc R m) (hF : ∀ x ∈ F, x < w.heap.size) (hi : i < R.length) (hk : k < N64)
    (hr : r = R.getD i default) (hn : n = r.X.length) (ht : t = posX r.X k) (hin : ¬ ixN r.X k < n) (hz : Frm [] w wz) (hone : OneP w wz wx av cv b1 k d) (hf3 : Frm [b1] wx w3) (hf4 : Frm [] w3 w4) (hb4 : ∀ y ∈ blk a4, w3.heap.size ≤ y)
    (ho : w4.ownsRow w.heap.size 57 2 (.slice a4 (n + 1) c4) (n + 1) (ic (r.X.take t) ++ (ic [⟨(k, d), av, cv⟩] ++ ic (r.X.drop t)))) :
    RlPutEnd w B F q dv (some ⟨g, 0, none⟩) Lc R m i k d (.returned (.tuple #[])) (w4.setCell ⟨g, i * 5 + 4, none⟩ (.slice a4 (n + 1) c4)) := by
  obtain ⟨_, hby, hav, hnil, hfx, hb1, hbb⟩ := hone
  have htl : t ≤ n := by rw [ht, hn]; exact posX_le _ _
  have hmem : r ∈ R := by rw [hr]; simp [hi]
  have hrok := h.all r hmem
  have hfw4 : Frm [] w w4 := ((hz.trans hfx (U := []) (by simp) (by simp)).trans hf3 (U := []) (by simp) (fun x hx => .inr (by simp at hx; subst hx; have := hz.size; omega))).trans hf4 (by simp) (by simp)
  have hs : Frm [g] w4 (w4.setCell ⟨g, i * 5 + 4, none⟩ (.slice a4 (n + 1) c4)) := (Frm.refl _ _).setCell (.inl (by simp)) _
  have hall : Frm [g] w (w4.setCell ⟨g, i * 5 + 4, none⟩ (.slice a4 (n + 1) c4)) := hfw4.trans hs (by simp) (fun x hx => .inl hx)
  have hgw : g ∈ rwB q (some ⟨g, 0, none⟩) R := by unfold rwB; simp
  have hgl : g < w.heap.size := h.lt g hgw
  have hnx : wx.heap.size ≤ w3.heap.size := hf3.size
  have hwx : w.heap.size ≤ wx.heap.size := Nat.le_trans hz.size hfx.size
  have hB : B ≤ w.heap.size := by have h1 := (h.out q (by unfold rwB; simp)).2; have h2 := h.box.lt; omega
  obtain ⟨X', hX'⟩ : ∃ X', X' = r.X.take t ++ ([⟨(k, d), av, cv⟩] ++ r.X.drop t) := ⟨_, rfl⟩
  have hlen : X'.length = n + 1 := by rw [hX', hn] at *; simp; omega
  have hits : its X' = putE (its r.X) k d := by rw [hX', ht]; exact its_new (by omega)
  have hic : ic X' = ic (r.X.take t) ++ (ic [⟨(k, d), av, cv⟩] ++ ic (r.X.drop t)) := by rw [hX', ic_append, ic_append]
  rw [← hic] at ho
  have hnew : ∀ y ∈ blk a4, y ∈ blk (R.getD i default).a ∨ w.heap.size ≤ y := fun y hy => .inr (by have := hb4 y hy; omega)
  refine ⟨{ r with a := a4, c := c4, X := X' }, rfl, by rw [← hr], by rw [← hr]; unfold Rl.lg; simp only [hits], ?_, hall.weak (fun x hx => by simp at hx; subst hx; exact .inl hgw), fun x hx => rwB_set hi hnew hx⟩
  refine h.set hF hi (by rw [← hr]) hall (fun x hx => by simp at hx; subst hx; exact .inl (by simp)) ?_ ?_ hnew (by omega) (by rw [hlen]; have := h.few.2 r hmem; omega)
  · rw [rc_items R _ i hi (by rw [← hr]) (by rw [← hr]) (by rw [← hr]) (by rw [← hr])]
    rw [show ({ r with a := a4, c := c4, X := X' } : Rl).X.length = n + 1 from hlen]
    exact (World.ownsRow.stored (hfw4.own h.own (by simp)) (i * 5 + 4) (.slice a4 (n + 1) c4)).1
  · have hW : ∀ x ∈ rwB q (some ⟨g, 0, none⟩) (R.set i { r with a := a4, c := c4, X := X' }) ++ F, x ∈ rwB q (some ⟨g, 0, none⟩) R ++ F ∨ (w3.heap.size ≤ x) := fun x hx => by
      rcases List.mem_append.1 hx with h1 | h1
      · rcases rwB_set hi (n := w3.heap.size) (fun y hy => .inr (hb4 y hy)) h1 with h2 | h2
        · exact .inl (by simp [h2])
        · exact .inr h2
      · exact .inl (by simp [h1])
    have hold : ∀ x ∈ rwB q (some ⟨g, 0, none⟩) R ++ F, x < w.heap.size := fun x hx => (List.mem_append.1 hx).elim (h.lt x) (hF x)
    have oldOk : ∀ y ∈ r.X, IxOk (w4.setCell ⟨g, i * 5 + 4, none⟩ (.slice a4 (n + 1) c4)) (rwB q (some ⟨g, 0, none⟩) (R.set i { r with a := a4, c := c4, X := X' }) ++ F) y := fun y hy =>
      (hrok.ok y hy).keep hall (fun x hx => by simp at hx; subst hx; exact .inl (by simp [hgw])) (fun x hx => by
        rcases hW x hx with h1 | h1
        · exact .inl h1
        · exact .inr (by omega))
    refine ⟨?_, fun y hy => ?_, by rw [hits]; exact riseE_put hrok.rise k d, hrok.num⟩
    · show World.ownsRow _ B _ 2 (.slice a4 X'.length c4) X'.length (ic X')
      rw [hlen]
      exact own_base (hs.own ho (fun y hy hm => by
        simp at hm; subst hm
        have := hb4 y (ownBlk.1 hy); omega)) hB
    · have hy' : y ∈ X' := hy
      rw [hX'] at hy'
      rcases List.mem_append.1 hy' with h1 | h1
      · exact oldOk y (List.mem_of_mem_take h1)
      · rcases List.mem_append.1 h1 with h2 | h2
        · simp at h2
          subst h2
          have hlt : d ≠ [] → ∀ x, av = some x → x.block < wx.heap.size := fun hne x hx => bytes_lt hby hne x hx
          refine ⟨hs.bytes' (hf4.bytes' (hf3.bytes' hby (fun hne x hx hm => by simp at hm; have := hbb hne x hx; omega)) (by simp)) (fun hne x hx hm => ?_), fun hne x hx hm => ?_, hnil, hk⟩
          · simp at hm
            have := hav x hx; omega
          · have e1 := hlt hne x hx
            have e2 := hav x hx
            rcases hW _ hm with h3 | h3
            · have := hold _ h3; omega
            · omega
        · exact oldOk y (List.mem_of_mem_drop h2)

set_option maxHeartbeats 8000000 in
theorem rput_new' {w : World} {B : Nat} {F : List Nat} {q g : Nat} {dv : Value} {Lc : Nat} {R : List Rl} {m : Nat} (i k : Nat) (xa : Option Addr) (xn xc : Nat) (d : List Nat) (h : Rs w B F q dv (some ⟨g, 0, none⟩) Lc R m) (hF : ∀ x ∈ F, x < w.heap.size) (hm : m ≤ 1000000) (hi : i < R.length) (hk : k < N64) (hb : Bytes w xa d) (hxn : xn = d.length) (hnil : xa = none → xc = 0) (hd : d.length ≤ 1000000) (hin0 : ¬ ixN (R.getD i default).X k < (R.getD i default).X.length) :
    Calls Tryz.prog 59 #[.pointer (some ⟨g, i * 5, none⟩), .agg #[.int .u64 (k : Nat), .slice xa xn xc]] w (RlPutEnd w B F q dv (some ⟨g, 0, none⟩) Lc R m i k d) := by
  obtain ⟨i0, hinf, hz0, hz1, hz2⟩ := info_parts infoIt2
  obtain ⟨i1, uinf, uz0, uz1, uz2⟩ := info_parts Tryz.info5
  obtain ⟨g', hg', c0, c1, c2, c3, c4⟩ := h.at hi
  cases hg'
  have hmem : R.getD i default ∈ R := by simp [hi]
  have hrok := h.all _ hmem
  have hfew := h.few.2 _ hmem
  obtain ⟨r, hr⟩ : ∃ r, r = R.getD i default := ⟨_, rfl⟩
  rw [← hr] at c4 hrok hfew hin0
  obtain ⟨n, hn⟩ : ∃ n, n = r.X.length := ⟨_, rfl⟩
  rw [← hn] at c4 hfew hin0
  obtain ⟨a, ha⟩ : ∃ a, a = r.a := ⟨_, rfl⟩
  obtain ⟨c, hc⟩ : ∃ c, c = r.c := ⟨_, rfl⟩
  rw [← ha, ← hc] at c4
  have hown : w.ownsRow B 57 2 (.slice a n c) n (ic r.X) := by rw [ha, hc, hn]; exact hrok.row
  have hil : IL w [] a r.X := by
    have : IOwn w B 57 [] r.a r.c r.X := ⟨hrok.row, hrok.ok.keep (S := []) (Frm.refl _ _) (by simp) (fun x hx => by simp at hx; exact .inl (List.mem_append_left _ (rwB_row (r := r) (by rw [hr]; exact hmem) hx))), by simp⟩
    rw [ha]; exact this.il
  have hIT : ∀ z, Frm [] w z → Calls Tryz.prog 26 #[.pointer (some ⟨g, i * 5, none⟩), .int .u64 (k : Nat)] z fun e w' => e = .returned (.int .i64 (ixI r.X k)) ∧ z = w' := fun z hz =>
    ritem_any (F := []) g (i * 5) k n c a r.X ((hz.cell (p := ⟨g, i * 5 + 4, none⟩) (block_lt_of_cell c4) (by simp)).trans c4) hn (hil.keep (F' := []) hz (by simp) (by simp)) (by omega)
  have H := Lib.hid h
  have HF := Lib.hid hF
  have HR := Lib.hid hr
  have HN := Lib.hid hn
  have HA := Lib.hid ha
  have HC := Lib.hid hc
  have HOW := Lib.hid hown
  have HIL := Lib.hid hil
  have HROK := Lib.hid hrok
  have HB := Lib.hid hb
  have HXN := Lib.hid hxn
  have HNIL := Lib.hid hnil
  have HINF := Lib.hid hinf
  have UI := Lib.hid uinf
  have free := h.own
  clear h hF hr hn ha hc hown hil hrok hb hxn hnil hinf uinf c0 c1 c2 c3 hmem
  have hin := hin0
  clear hin0
  have hI : ixI r.X k = -1 := by unfold ixI; rw [if_neg (by rw [← HN.out]; exact hin)]
  rw [hI] at hIT
  have HIT := Lib.hid hIT
  have hxfit : xn ≤ 1000000 := by have := HXN.out; omega
  clear hI hIT
  go_enter Tryz.func59, Tryz.ntmps59
  go_wp2_with fail
  obtain ⟨gx, hgx⟩ : ∃ gx, gx = w.heap.size := ⟨_, rfl⟩
  have hWx := Whole.made w 57 #[.int .u64 (k : Nat), .slice xa xn xc]
  have hfx : Frm [] w (w.alloc (.cells #[.int .u64 (k : Nat), .slice xa xn xc] 57)) := (Frm.refl [] w).alloc _
  rw [← hgx] at hWx ⊢
  generalize w.alloc (.cells #[.int .u64 (k : Nat), .slice xa xn xc] 57) = w0 at hWx hfx ⊢
  (with_reducible refine (HIT.out _ hfx).mono ?_)
  rintro e w' ⟨rfl, rfl⟩
  have d4 := (hfx.cell (p := ⟨g, i * 5 + 4, none⟩) (block_lt_of_cell c4) (by simp)).trans c4
  have x0 := hWx.cell 0
  have x1 := hWx.cell 1
  simp at x0 x1
  have hgl : g < w0.heap.size := block_lt_of_cell d4
  have HGX := Lib.hid hgx
  have C4 := Lib.hid c4
  have HFX := Lib.hid hfx
  have HWX := Lib.hid hWx
  have HILX := Lib.hid (HIL.out.keep (F' := []) hfx (by simp) (by simp))
  clear c4 hgx hfx hWx HIT
  have hpl := posX_le r.X k
  have HPA := Lib.hid (fun h => posX_at (X := r.X) (k := k) h)
  have HPB := Lib.hid (fun j h => posX_before (X := r.X) (k := k) (j := j) h)
  obtain ⟨p, hp⟩ : ∃ p, p = posX r.X k := ⟨_, rfl⟩
  rw [← hp] at hpl HPA HPB
  rw [← HN.out] at hpl
  have HP := Lib.hid hp
  clear hp
  go_wp2
  go_loopw [5] (fun u wr => ∃ t nq : Nat, t ≤ p ∧ u = .int .i64 (t : Nat) ∧ Hid (wr = w0.drewN nq)) (fun u _ => n - (intOf u).toNat)
  case atStart => exact ⟨0, 0, Nat.zero_le _, rfl, Lib.hid rfl⟩
  case round =>
    obtain ⟨t, qn, ht, rfl, HWR⟩ := hrel
    have hfr : Frm [] w0 wr := by rw [HWR.out]; exact (Frm.refl _ _).drewN qn
    have e4 := (hfr.cell (p := ⟨g, i * 5 + 4, none⟩) (block_lt_of_cell d4) (by simp)).trans d4
    have z0 := (hfr.cell (p := ⟨gx, 0, none⟩) (block_lt_of_cell x0) (by simp)).trans x0
    have z1 := (hfr.cell (p := ⟨gx, 1, none⟩) (block_lt_of_cell x1) (by simp)).trans x1
    have HFR := Lib.hid (HFX.out.trans hfr (U := []) (by simp) (by simp))
    have HILW := Lib.hid (HILX.out.keep (F' := []) hfr (by simp) (by simp))
    have hgl2 : g < wr.heap.size := block_lt_of_cell e4
    have hgx2 : gx < wr.heap.size := block_lt_of_cell z0
    clear d4 x0 x1 hfr hgl HILX
    by_cases htp : t < p
    · obtain ⟨b2, o2, rfl, y0, _, _⟩ := HILW.out.at (i := t) (by have := HN.out; omega)
      have hless := HPB.out t htp
      generalize (r.X.getD t default).t.1 = yk at y0 hless
      have htn : t < n := by omega
      have hdec : decide ((yk : Int) < (k : Int)) = true := decide_eq_true (by omega)
      go_wp2
      go_quiet (fail)
      have HQ : Hid (wr.drewN nq = w0.drewN (qn + nq)) := Lib.hid (by rw [HWR.out]; simp [World.drewN, Nat.add_assoc])
      go_wp2
      go_roundw
      case rel => exact ⟨t + 1, qn + nq, by omega, by go_num, HQ⟩
      case measure => simp [intOf]; omega
    · obtain rfl : t = p := by omega
      have hcase : (¬ t < n) ∨ (t < n ∧ ∃ b2 o2 yk, a = some ⟨b2, o2, none⟩ ∧ wr.cell? ⟨b2, o2 + t * 2, none⟩ = some (.int .u64 ((yk : Nat) : Int)) ∧ k ≤ yk ∧ decide (((yk : Nat) : Int) < (k : Int)) = false) := by
        rcases Nat.lt_or_ge t n with h | h
        · obtain ⟨b2, o2, e, y0, _⟩ := HILW.out.at (i := t) (by have := HN.out; omega)
          exact .inr ⟨h, b2, o2, _, e, y0, HPA.out (by have := HN.out; omega), decide_eq_false (by have := HPA.out (by have := HN.out; omega); omega)⟩
        · exact .inl (by omega)
      rcases hcase with htn | ⟨htn, b2, o2, yk, rfl, y0, hless, hdec⟩
      all_goals
        go_wp2
        go_quiet (fail)
        go_wp2
        have hfz : Frm [] w (wr.drewN nq) := HFR.out.drewN nq
        have e5 : (wr.drewN nq).cell? ⟨g, i * 5 + 4, none⟩ = wr.cell? ⟨g, i * 5 + 4, none⟩ := rfl
        have e6 : (wr.drewN nq).cell? ⟨gx, 0, none⟩ = wr.cell? ⟨gx, 0, none⟩ := rfl
        have e7 : (wr.drewN nq).cell? ⟨gx, 1, none⟩ = wr.cell? ⟨gx, 1, none⟩ := rfl
        rw [e4] at e5
        rw [z0] at e6
        rw [z1] at e7
        generalize wr.drewN nq = wz at hfz e5 e6 e7 ⊢
        clear e4 z0 z1 HWR HFR HILW hgl2 hgx2
        try clear y0
        have hgl3 : g < wz.heap.size := block_lt_of_cell e5
        have hgx3 : gx < wz.heap.size := block_lt_of_cell e6
        have f00 : Frm [] wz (wz.alloc (.cells #[] 5)).drew := ((Frm.refl [] wz).alloc _).drew
        have x2 : (wz.alloc (.cells #[] 5)).cell? ⟨gx, 1, none⟩ = some (.slice xa xn xc) := (f00.cell (p := ⟨gx, 1, none⟩) hgx3 (by simp)).trans e7
        have x3 : (wz.alloc (.cells #[] 5)).cell? ⟨gx, 0, none⟩ = some (.int .u64 (k : Nat)) := (f00.cell (p := ⟨gx, 0, none⟩) hgx3 (by simp)).trans e6
        have LIT : Hid ((wz.alloc (.cells #[] 5)).drew.ownsRow w.heap.size 5 1 (.slice (some ⟨wz.heap.size, 0, none⟩) 0 0) 0 []) := Lib.hid (by
          have h1 : (wz.alloc (.cells #[] 5)).ownsRow w.heap.size 5 1 (.slice (some ⟨wz.heap.size, 0, none⟩) 0 0) 0 [] := World.ownsRow_lit wz #[] 0 hfz.size (by unfold maxLen; omega) rfl
          exact h1)
        have BY : Hid (Bytes (wz.alloc (.cells #[] 5)).drew xa d) := Lib.hid (f00.bytes' (hfz.bytes' HB.out (by simp)) (by simp))
        have SZ : Hid (w.heap.size ≤ (wz.alloc (.cells #[] 5)).drew.heap.size) := Lib.hid (Nat.le_trans hfz.size f00.size)
        have LB : Hid (∀ y, (Value.slice (some ⟨wz.heap.size, 0, none⟩) 0 0).ownBlock = some y → wz.heap.size ≤ y) := Lib.hid fun y hy => by
          simp [Value.ownBlock] at hy; omega
        have F00 := Lib.hid f00
        have HFZ := Lib.hid hfz
        clear f00 hfz
        go_cut [6] (fun v wx => ∃ av cv b1, v = .slice (some ⟨b1, 0, none⟩) 1 1 ∧ Hid (OneP w wz wx av cv b1 k d))
        case first =>
          go_region_law (refine step_app rfl (.tmp 48) (.tmp 50) 35 rfl w.heap.size 5 i1 Tryz.underlying35 UI.out uz0 uz1 uz2 _ 0 [] rfl LIT.out _ _ _ d rfl BY.out HXN.out HNIL.out (by omega) SZ.out ?_; intro av cv w2 happ; have hf2 : Frm [] wz w2 := F00.out.grown happ.grown (fun y hy => .inr (LB.out y hy)); have d6 := (hf2.cell (p := ⟨gx, 0, none⟩) hgx3 (by simp)).trans e6; have HON := Lib.hid (one_made (k := k) HFZ.out HXN.out HB.out.1 happ hf2); clear happ hf2)
          all_goals
            go_wp2_with fail
            go_meet
            case rel => exact ⟨_, _, _, rfl, HON⟩
        case rest =>
          obtain ⟨av, cv, b1, rfl, HON⟩ := hcut
          clear LIT BY SZ LB F00 x2 x3
          go_wp2
          have hxx := HON.out.2.2.2.2.1
          have d8 := (hxx.cell (p := ⟨g, i * 5 + 4, none⟩) hgl3 (by simp)).trans e5
          have htl : t ≤ n := by omega
          obtain ⟨a2, n2, c2, hpf⟩ := putF HOW.out HIL.out HN.out htl
          have hcut1 := hpf.cut1
          have hcut2 := hpf.cut2
          have hsum := hpf.sum
          have PF := Lib.hid hpf
          have HFX2 := Lib.hid (HFZ.out.trans hxx (U := []) (by simp) (by simp))
          have O1 := Lib.hid HON.out.1
          have hfit1 : 1 + n2 ≤ 1000000000 := by omega
          have hfit2 : t + (1 + n2) ≤ 1000000000 := by omega
          have hpos : 0 < 1 + n2 := by omega
          have HSUM := Lib.hid hsum
          have HL12 : Hid ((ic [⟨(k, d), av, cv⟩] ++ ic (r.X.drop t)).length = (1 + n2) * 2) := Lib.hid (by rw [List.length_append, hpf.l2, ic_length, List.length_singleton]; omega)
          have HONE : Hid (∀ u ∈ ic [⟨(k, d), av, cv⟩] ++ ic (r.X.drop t), u.oneCell' = true) := Lib.hid (fun u hu => (List.mem_append.1 hu).elim (ic_one _ u) (ic_one _ u))
          have HXX := Lib.hid hxx
          have hgl4 := block_lt_of_cell d8
          clear hpf hsum hxx e5 e6 e7 hgl3 hgx3
          have HXB := Lib.hid (fun w3 => one_grown (w3 := w3) HON.out HFZ.out)
          have HEND := Lib.hid (fun w3 w4 a4 c4 => rput_new_end (w3 := w3) (w4 := w4) (a4 := a4) (c4 := c4) H.out HF.out hi hk HR.out HN.out HP.out hin HFZ.out HON.out)
          go_region_law (first
            | (refine step_appS (by rfl) (.tmp 62) (.tmp 68) 80 rfl w.heap.size 57 i0 (.agg #[.int .u64 0, .slice none 0 0]) 2 32 Tryz.underlying80 HINF.out hz0 rfl (by decide) hz1 hz2 (by decide) (.slice (some ⟨b1, 0, none⟩) 1 1) 1 _ rfl O1.out _ n2 c2 _ rfl (PF.out.v2 _ HFX2.out.drew) PF.out.l2 (ic_one _) PF.out.cn hfit1 (Nat.le_trans HFX2.out.size (Nat.le_refl _)) (1 + n2) rfl ?_; intro a3 c3 w3 happ3; have f3b := (HXB.out _ happ3.grown).1; have f3w := (HXB.out _ happ3.grown).2; have O3 := Lib.hid (own_vals happ3.own); have F3B := Lib.hid f3b; have F3W := Lib.hid f3w; have d9 := (f3w.cell (p := ⟨g, i * 5 + 4, none⟩) (block_lt_of_cell C4.out) (by simp)).trans C4.out; clear happ3 f3b f3w)
            | (refine step_appT (by rfl) (.tmp 61) (.tmp 69) 80 rfl w.heap.size 57 i0 (.agg #[.int .u64 0, .slice none 0 0]) 2 32 Tryz.underlying80 HINF.out hz0 rfl (by decide) hz1 hz2 (by decide) _ t _ rfl (PF.out.v1 _ F3W.out) PF.out.l1 _ (1 + n2) _ _ rfl O3.out HL12.out HONE.out hpos hfit2 F3W.out.size PF.out.an (n + 1) HSUM.out ?_; intro a4 c4 w4 h4 f34 g4; have HE := Lib.hid (HEND.out _ _ _ _ F3B.out f34 g4 h4); have f4w := F3W.out.trans f34 (U := []) (by simp) (by simp); have d10 := (f4w.cell (p := ⟨g, i * 5 + 4, none⟩) (block_lt_of_cell C4.out) (by simp)).trans C4.out; have fz := World.ownsRow.frozenAt (f4w.own H.out.own (by simp)) (i * 5 + 4); clear h4 f34 g4 f4w))
          all_goals
            go_wp2
            exact bodyPost_ret (v := .tuple #[]) (by simp [results, Tryz.results59, go_sem]) rfl HE.out
end Go.Proofs.YtamcandcfainfaaGreat
