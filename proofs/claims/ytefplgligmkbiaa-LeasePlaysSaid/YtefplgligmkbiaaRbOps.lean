/- Contracts of the document's book of sessions: sum, Open, Renew, Close, Expire, SameSessions, BookOf. -/
import Derived.Test.YtefplgligmkbiaaRbAt
import Derived.Test.YtefplgligmkbiaaLsCalls
namespace Go.Proofs.Ytefplgligmkbiaa
open Go.RowKit

theorem Try.info56 : (Try.prog.info? 56).map (fun i => (i.zero, i.size, i.bytes)) = some (some (.agg #[.int .u64 0, .int .u64 0, .int .u64 0]), 3, 24) := by kernel_rfl
theorem sizeS : ∀ w, (Go.sizeOf 56).run Try.prog w = .ok 3 w := fun _ => by kernel_rfl

set_option maxHeartbeats 1000000 in
theorem sum_any {w : World} (a b : Nat) (ha : a < 18446744073709551616) (hb : b < 18446744073709551616) :
    Calls Try.prog 28 #[.int .u64 (a : Nat), .int .u64 (b : Nat)] w fun e w' => e = .returned (.int .u64 (sumN a b : Nat)) ∧ w = w' := by
  unfold sumN
  by_cases h : a + b < 18446744073709551616
  · rw [if_pos h]
    obtain ⟨s, hs⟩ : ∃ s, s = a + b := ⟨_, rfl⟩
    rw [← hs]
    have hw0 : ((a : Int) + (b : Int)) % 18446744073709551616 = (s : Int) := by omega
    have hw : IntKind.u64.wrap ((a : Int) + (b : Int)) = (s : Int) := by rw [← hw0]; simp [IntKind.wrap, IntKind.bits, IntKind.signed]
    have hlt : ¬ s < a := by omega
    clear hs h ha hb
    go_enter Try.func28, Try.ntmps28
    go_wp2
    go_ret
    exact ⟨rfl, rfl⟩
  · rw [if_neg h]
    obtain ⟨s, hs⟩ : ∃ s, s = a + b - 18446744073709551616 := ⟨_, rfl⟩
    have hw0 : ((a : Int) + (b : Int)) % 18446744073709551616 = (s : Int) := by omega
    have hw : IntKind.u64.wrap ((a : Int) + (b : Int)) = (s : Int) := by rw [← hw0]; simp [IntKind.wrap, IntKind.bits, IntKind.signed]
    have hlt : s < a := by omega
    clear hs h ha hb
    go_enter Try.func28, Try.ntmps28
    go_wp2
    go_ret
    exact ⟨rfl, rfl⟩

/-- What a change of the book leaves. -/
def RbTo (w w' : World) (B p : Nat) (F : List Nat) (last' : Nat) (X' : List Sn) : Prop := ∃ a' c', Rb w' B p F a' c' last' X' ∧ Frm [p] w w' ∧ ∀ g ∈ blk a', w.heap.size ≤ g
/-- A list of sessions is stored in the book. -/
theorem Rb.store {w w1 : World} {B p : Nat} {F : List Nat} {a a' : Option Addr} {cap c' last : Nat} {X Y : List Sn} (h : Rb w B p F a cap last X) (hf : Frm [] w w1) (hr : SOwn w1 w.heap.size 56 (p :: F) a' c' Y) (hl : Y.length ≤ 16) :
    RbTo w (w1.setCell ⟨p, 1, none⟩ (.slice a' Y.length c')) B p F last Y := by
  have ht := (hf.whole h.book (by simp)).put 1 (.slice a' Y.length c')
  have hs : Frm [p] w1 (w1.setCell ⟨p, 1, none⟩ (.slice a' Y.length c')) := (Frm.refl _ _).setCell (.inl (by simp)) _
  have hr2 := hr.keep (F' := p :: F) hs (fun x hx => .inl (by simp at hx; simp [hx])) (fun x hx => .inl hx)
  refine ⟨a', c', ⟨by simpa using ht, ⟨?_, hr2.fits, hr2.away⟩, h.hp, h.out, hl, h.lt⟩, (hf.weak (by simp)).trans hs (fun x hx => hx) (fun x hx => .inl hx), fun g hg => (hr.blk_lt g hg).1⟩
  refine ⟨hr2.own.1, ?_⟩
  rcases hr2.own.2 with h2 | ⟨g, cp, cur, hv, hg, r⟩
  · exact .inl h2
  · exact .inr ⟨g, cp, cur, hv, by have := h.hp; have := h.book.lt; omega, r⟩
theorem Rb.keep {w w' : World} {B p : Nat} {F S : List Nat} {a : Option Addr} {cap last : Nat} {X : List Sn} (h : Rb w B p F a cap last X) (hf : Frm S w w') (hp : p ∉ S) (hS : ∀ x ∈ S, x ∈ p :: F ∨ w.heap.size ≤ x) : Rb w' B p F a cap last X :=
  { h with book := hf.whole h.book hp, row := h.row.keep hf hS (fun _ hx => .inl hx) }

/-- An empty literal, appended to. -/
theorem frm_lit3 {w z w3 : World} {base m : Nat} {e : TypeId} {xs us : List Value} {a3 : Option Addr} {c3 : Nat} (hz : Frm [] w z) (h : AppS (z.alloc (.cells #[] e)) w3 base e 3 (.slice (some ⟨z.heap.size, 0, none⟩) 0 0) 0 m xs us a3 c3) : Frm [] w w3 :=
  (hz.alloc _).grown h.grown (fun k hk => .inr (by simp [Value.ownBlock] at hk; have := hz.size; omega))
theorem frm_app3 {w z w3 : World} {base n m : Nat} {e : TypeId} {v : Value} {xs us : List Value} {a3 : Option Addr} {c3 : Nat} (hz : Frm [] w z) (h : AppS z w3 base e 3 v n m xs us a3 c3) (hb : ∀ g, v.ownBlock = some g → w.heap.size ≤ g) : Frm [] w w3 :=
  hz.grown h.grown (fun k hk => .inr (hb k hk))

set_option maxRecDepth 100000 in
set_option maxHeartbeats 4000000 in
theorem rclose_ok {w : World} {B p : Nat} {F : List Nat} {a : Option Addr} {cap last : Nat} {X : List Sn} (id q : Nat) (h : Rb w B p F a cap last X) (hF : ∀ x ∈ F, x < w.heap.size) (hq : q = atS X id) (hin : q < X.length) :
    Calls Try.prog 16 #[.pointer (some ⟨p, 0, none⟩), .int .u64 (id : Nat)] w fun e w' => e = .returned (.int .i64 0) ∧ RbTo w w' B p F last (X.take q ++ X.drop (q + 1)) := by
  obtain ⟨i0, hi, hz0, hz1, hz2⟩ := info_parts Try.info56
  have HI := Lib.hid hi; clear hi
  have HZ0 := Lib.hid hz0; clear hz0
  have HZ1 := Lib.hid hz1; clear hz1
  have HZ2 := Lib.hid hz2; clear hz2
  have hat : atSI X id = (q : Int) := by unfold atSI; rw [← hq, if_pos hin]
  have hR := rbat_any id h
  rw [hat] at hR
  have HR := Lib.hid hR; clear hR hat
  obtain ⟨n, hnn⟩ : ∃ n, n = X.length := ⟨_, rfl⟩
  have hn : n ≤ 16 := by have := h.few; omega
  have hqn : q < n := by omega
  obtain ⟨b, off, rfl, _, _, _, _⟩ := h.row.sl.at hin
  have c0 := h.book.cell 1
  rw [← hnn] at c0
  simp at c0
  have hcap : n ≤ cap := by rw [hnn]; exact h.row.caps.1
  have HH := Lib.hid h
  have HN := Lib.hid hnn
  have HPF : Hid (∀ x ∈ p :: F, x < w.heap.size) := Lib.hid fun x hx => by
    rcases List.mem_cons.1 hx with rfl | h1
    · exact HH.out.book.lt
    · exact hF x h1
  have hcut1 := fun w => run_head3 Try.underlying23 sizeS w (some ⟨b, off, none⟩) n cap q (by omega)
  have hcut2 := fun w => run_cut3 (P := Try.prog) Try.underlying23 sizeS w (some ⟨b, off, none⟩) n cap (q + 1) ((q : Int) + 1) (by omega) (by omega)
  obtain ⟨a2, ha2⟩ : ∃ a2, a2 = cut3 (some ⟨b, off, none⟩) cap (q + 1) := ⟨_, rfl⟩
  obtain ⟨n2, hn2⟩ : ∃ n2, n2 = n - (q + 1) := ⟨_, rfl⟩
  obtain ⟨c2, hc2⟩ : ∃ c2, c2 = cap - (q + 1) := ⟨_, rfl⟩
  have hD2 := h.row.sl.drop (by rw [← hnn]; exact hcap) (q + 1)
  rw [← ha2] at hcut2 hD2
  rw [← hn2, ← hc2] at hcut2
  have hD1 := h.row.sl.take q
  have hs1 : IntKind.i64.wrap ((q : Int) + 1) = (q : Int) + 1 := IntWalk.i64_in _ (by omega)
  have h2none : a2 = none → c2 = 0 := fun h0 => by
    rw [ha2] at h0
    unfold cut3 at h0
    split at h0 <;> simp at h0
  have HD1 := Lib.hid hD1
  have HD2 := Lib.hid hD2
  have H2N := Lib.hid h2none
  have hl1 : (snc (X.take q)).length = q * 3 := by rw [snc_length, List.length_take, ← hnn, Nat.min_eq_left (by omega)]
  have hl2 : (snc (X.drop (q + 1))).length = n2 * 3 := by rw [snc_length, List.length_drop, ← hnn, hn2]
  have hm1 : q = (X.take q).length := by rw [List.length_take, ← hnn, Nat.min_eq_left (by omega)]
  have hm2 : n2 = (X.drop (q + 1)).length := by rw [List.length_drop, ← hnn, hn2]
  have HL1 := Lib.hid hl1
  have HL2 := Lib.hid hl2
  have HM1 := Lib.hid hm1
  have HM2 := Lib.hid hm2
  have hfit1 : 0 + q ≤ 1000000000 := by omega
  have hfit2 : q + n2 ≤ 1000000000 := by omega
  have hfit3 : q + n2 ≤ 16 := by omega
  obtain ⟨wA, hA⟩ : ∃ wA, wA = w.alloc (.cells #[] 56) := ⟨_, rfl⟩
  have hfA : Frm [] w wA := by rw [hA]; exact (Frm.refl _ _).alloc _
  have cA := (hfA.whole HH.out.book (by simp)).cell 1
  rw [← HN.out] at cA
  simp at cA
  rw [hA] at cA
  clear hnn hn2 hc2 ha2 hD1 hD2 h2none hl1 hl2 hm1 hm2 hF hq hin h hfA hA
  go_enter Try.func16, Try.ntmps16
  go_wp2_with fail
  refine HR.out.mono ?_
  rintro e w' ⟨rfl, rfl⟩
  go_wp2
  have cp : ∀ z, Frm [] w z → z.cell? ⟨p, 1, none⟩ = some (.slice (some ⟨b, off, none⟩) n cap) := fun z hz => (hz.cell (block_lt_of_cell c0) (by simp)).trans c0
  have V1 := Lib.hid (fun (z : World) (hz : Frm [] w z) => (HD1.out.keep (F' := p :: F) hz (by simp) (fun x h => .inl h)).vals)
  have V2 := Lib.hid (fun (z : World) (hz : Frm [] w z) => (HD2.out.keep (F' := p :: F) hz (by simp) (fun x h => .inl h)).vals)
  have LIT := Lib.hid (fun (z : World) (hz : Frm [] w z) => (show (z.alloc (.cells #[] 56)).ownsRow w.heap.size 56 3 (.slice (some ⟨z.heap.size, 0, none⟩) 0 0) 0 (snc []) from World.ownsRow_lit z #[] 0 hz.size (by unfold maxLen; omega) rfl))
  have FRZ := Lib.hid (fun (z : World) (hz : Frm [] w z) => (hz.whole HH.out.book (by simp)).free 1)
  have OLN := Lib.hid (fun (z : World) (hz : Frm [] w z) => (show SOwn (z.alloc (.cells #[] 56)) w.heap.size 56 (p :: F) (some ⟨z.heap.size, 0, none⟩) 0 [] from ⟨World.ownsRow_lit z #[] 0 hz.size (by unfold maxLen; omega) rfl, by simp, fun g hg hm => by
    simp at hg; subst hg; have h1 := HPF.out _ hm; have h2 := hz.size; omega⟩))
  have f00 : Frm [] w w.drew := (Frm.refl [] w).drew
  go_region_law (first
    | (refine step_appS (by rfl) (.tmp 12) (.tmp 18) 23 rfl w.heap.size 56 i0 (.agg #[.int .u64 0, .int .u64 0, .int .u64 0]) 3 24 Try.underlying23 HI.out HZ0.out rfl (by decide) HZ1.out HZ2.out (by decide) _ 0 _ rfl (LIT.out w.drew f00) _ q cap _ rfl (V1.out _ (f00.alloc _)) HL1.out (snc_one _) (fun h => by cases h) hfit1 (f00.alloc _).size q (by omega) ?_; intro a3 c3 w3 happ3; have f3 : Frm [] w w3 := frm_lit3 f00 happ3; have O3 : Hid (w3.ownsRow w.heap.size 56 3 (.slice a3 q c3) q (snc (X.take q))) := (by have h := happ3.own; rw [Nat.zero_add] at h; exact Lib.hid h); have A3 := Lib.hid happ3; clear happ3; have cp3 := cp _ f3)
    | (refine step_appS (by rfl) (.tmp 19) (.tmp 26) 23 rfl w.heap.size 56 i0 (.agg #[.int .u64 0, .int .u64 0, .int .u64 0]) 3 24 Try.underlying23 HI.out HZ0.out rfl (by decide) HZ1.out HZ2.out (by decide) _ q _ rfl O3.out _ n2 c2 _ rfl (V2.out _ f3) HL2.out (snc_one _) H2N.out hfit2 f3.size (q + n2) rfl ?_; intro a4 c4 w4 happ4; have f4 : Frm [] w w4 := frm_app3 f3 happ4 (fun g hg => (World.ownsRow.lt O3.out g hg).1); have A4 := Lib.hid happ4; clear happ4; have cp4 := cp _ f4; have fp4 := FRZ.out _ f4))
  all_goals
    obtain ⟨g1, g2, g3, g4⟩ := (OLN.out w.drew f00).app (X := []) rfl HD1.out.fits HM1.out (fun x hx => Nat.lt_of_lt_of_le (HPF.out x hx) (f00.alloc _).size) A3.out
    rw [List.nil_append] at g1
    obtain ⟨k1, k2, k3, k4⟩ := g1.app HM1.out HD2.out.fits HM2.out (fun x hx => Nat.lt_of_lt_of_le (HPF.out x hx) f3.size) A4.out
    have hst := Rb.store HH.out f4 k1 (by rw [← k4]; omega)
    rw [← k4] at hst
    have HST := Lib.hid hst
    clear g1 g2 g3 g4 k1 k2 k3 k4 hst A3 A4 O3 cp cp3 cp4 fp4 f3 f4 f00
    go_wp2
    go_ret
    exact ⟨rfl, HST.out⟩

/-- What a call that answers an error's number leaves. -/
def RbEnd (w : World) (B p : Nat) (F : List Nat) (last' : Nat) (X' : List Sn) (v : Value) (e : Ending) (w' : World) : Prop := e = .returned v ∧ ∃ a' c', Rb w' B p F a' c' last' X' ∧ Frm [p] w w'
set_option maxHeartbeats 1000000 in
theorem rclose_any {w : World} {B p : Nat} {F : List Nat} {a : Option Addr} {cap last : Nat} {X : List Sn} (id : Nat) (h : Rb w B p F a cap last X) (hF : ∀ x ∈ F, x < w.heap.size) :
    Calls Try.prog 16 #[.pointer (some ⟨p, 0, none⟩), .int .u64 (id : Nat)] w (RbEnd w B p F last (closeL X id) (.int .i64 (closeC X id : Nat))) := by
  unfold closeC closeL
  by_cases hin : atS X id < X.length
  · rw [if_pos hin, if_pos hin]
    refine (rclose_ok id (atS X id) h hF rfl hin).mono ?_
    rintro e w' ⟨he, a', c', hr, hf, _⟩
    exact ⟨he, a', c', hr, hf⟩
  · rw [if_neg hin, if_neg hin]
    have hat : atSI X id = -1 := by unfold atSI; rw [if_neg hin]
    have hR := rbat_any id h
    rw [hat] at hR
    have HR := Lib.hid hR; clear hR hat
    have HH := Lib.hid h; clear h hF
    go_enter Try.func16, Try.ntmps16
    go_wp2_with ((with_reducible refine HR.out.mono ?_); rintro e w' ⟨rfl, rfl⟩)
    go_ret
    exact ⟨rfl, a, cap, HH.out, Frm.refl _ _⟩
end Go.Proofs.Ytefplgligmkbiaa
