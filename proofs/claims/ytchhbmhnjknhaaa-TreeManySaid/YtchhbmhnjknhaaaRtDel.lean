/- Contract of the reference's Delete. -/
import Derived.Test.YtchhbmhnjknhaaaRtDrop
import Derived.Deep.RegionLaw
namespace Go.Proofs.Ytchhbmhnjknhaaa
open Go.RowKit

def delC (X : List Nx) (s : ByteArray) (want : Nat) : Nat := if ¬ atN X s < X.length then 11 else if (X.getD (atN X s) default).t.ver ≠ want then 13 else 0

set_option maxRecDepth 100000 in
set_option maxHeartbeats 2000000 in
theorem rdel_bad {w : World} {B p : Nat} {F : List Nat} {a : Option Addr} {cap : Nat} {X : List Nx} (s : ByteArray) (want : Nat) (h : Rt w B p F a cap X) (hc : delC X s want ≠ 0) :
    Calls Try.prog 16 #[.pointer (some ⟨p, 0, none⟩), .string s, .int .u64 (want : Nat)] w fun e w' => e = .returned (.int .i64 (delC X s want : Nat)) ∧ w = w' := by
  have hR := Lib.hid (rat_any s h)
  have c0 := h.tree.cell 0
  simp at c0
  have hn := h.few
  have hat : atI X s = if atN X s < X.length then ((atN X s : Nat) : Int) else -1 := rfl
  have hrow := Lib.hid h.row.nl
  unfold delC at hc ⊢
  obtain ⟨q, hq⟩ : ∃ q, q = atN X s := ⟨_, rfl⟩
  obtain ⟨n, hnn⟩ : ∃ n, n = X.length := ⟨_, rfl⟩
  rw [← hq, ← hnn] at hc hat
  rw [← hq, ← hnn]
  rw [← hnn] at c0 hn
  have HNN := Lib.hid hnn
  clear h hq hnn
  by_cases hin : q < n
  · rw [if_pos hin] at hat
    rw [hat] at hR
    rw [if_neg (by omega)] at hc ⊢
    obtain ⟨b, off, rfl, _, _, p2, _, _⟩ := hrow.out.at (i := q) (by have := HNN.out; omega)
    generalize (X.getD q default).t.ver = ver at p2 hc ⊢
    by_cases e5 : ver = want
    · exfalso
      rw [if_neg (by omega)] at hc
      exact hc rfl
    · rw [if_pos e5]
      have e5' : ((ver : Int) != (want : Int)) = true := by simp; omega
      clear hat hc hrow HNN e5
      go_enter Try.func16, Try.ntmps16
      go_wp2_with fail
      refine hR.out.mono ?_
      rintro e w' ⟨rfl, rfl⟩
      go_wp2
      go_ret
      exact ⟨rfl, rfl⟩
  · rw [if_neg hin] at hat
    rw [hat] at hR
    rw [if_pos hin]
    clear hat hc hrow HNN
    go_enter Try.func16, Try.ntmps16
    go_wp2_with fail
    refine hR.out.mono ?_
    rintro e w' ⟨rfl, rfl⟩
    go_wp2
    go_ret
    exact ⟨rfl, rfl⟩

/-- An empty literal, appended to. -/
theorem frm_lit {w z w3 : World} {base m : Nat} {e : TypeId} {xs us : List Value} {a3 : Option Addr} {c3 : Nat} (hz : Frm [] w z) (h : AppS (z.alloc (.cells #[] e)) w3 base e 4 (.slice (some ⟨z.heap.size, 0, none⟩) 0 0) 0 m xs us a3 c3) : Frm [] w w3 :=
  (hz.alloc _).grown h.grown (fun k hk => .inr (by simp [Value.ownBlock] at hk; have := hz.size; omega))
theorem frm_app {w z w3 : World} {base n m : Nat} {e : TypeId} {v : Value} {xs us : List Value} {a3 : Option Addr} {c3 : Nat} (hz : Frm [] w z) (h : AppS z w3 base e 4 v n m xs us a3 c3) (hb : ∀ g, v.ownBlock = some g → w.heap.size ≤ g) : Frm [] w w3 :=
  hz.grown h.grown (fun k hk => .inr (hb k hk))

set_option maxRecDepth 100000 in
set_option maxHeartbeats 4000000 in
theorem rdel_ok {w : World} {B p : Nat} {F : List Nat} {a : Option Addr} {cap : Nat} {X : List Nx} (s : ByteArray) (want q : Nat) (h : Rt w B p F a cap X) (hF : ∀ x ∈ F, x < w.heap.size) (hq : q = atN X s) (hin : q < X.length) (hver : (X.getD q default).t.ver = want) :
    Calls Try.prog 16 #[.pointer (some ⟨p, 0, none⟩), .string s, .int .u64 (want : Nat)] w (RtEnd w B p F (X.take q ++ X.drop (q + 1)) (.int .i64 0)) := by
  obtain ⟨i0, hi, hz0, hz1, hz2⟩ := info_parts Try.info44
  have HI := Lib.hid hi; clear hi
  have HZ0 := Lib.hid hz0; clear hz0
  have HZ1 := Lib.hid hz1; clear hz1
  have HZ2 := Lib.hid hz2; clear hz2
  have hat : atI X s = (q : Int) := by unfold atI; rw [← hq, if_pos hin]
  have hR := rat_any s h
  rw [hat] at hR
  have HR := Lib.hid hR; clear hR hat
  obtain ⟨n, hnn⟩ : ∃ n, n = X.length := ⟨_, rfl⟩
  have hn : n ≤ 256 := by have := h.few; omega
  have hqn : q < n := by omega
  obtain ⟨b, off, rfl, _, _, p2, _, _⟩ := h.row.nl.at hin
  rw [hver] at p2
  have c0 := h.tree.cell 0
  rw [← hnn] at c0
  simp at c0
  have f0 := h.tree.free 0
  have hcap : n ≤ cap := by rw [hnn]; exact h.row.caps.1
  have hw3 : ((want : Int) != (want : Int)) = false := by simp
  have HH := Lib.hid h
  have HN := Lib.hid hnn
  have HPF : Hid (∀ x ∈ p :: F, x < w.heap.size) := Lib.hid fun x hx => by
    rcases List.mem_cons.1 hx with rfl | h1
    · exact HH.out.tree.lt
    · exact hF x h1
  -- the two pieces
  have hcut1 := fun w => run_head4 Try.underlying27 sizeN w (some ⟨b, off, none⟩) n cap q (by omega)
  have hcut2 := fun w => run_cut4 (P := Try.prog) Try.underlying27 sizeN w (some ⟨b, off, none⟩) n cap (q + 1) ((q : Int) + 1) (by omega) (by omega)
  obtain ⟨a2, ha2⟩ : ∃ a2, a2 = cut4 (some ⟨b, off, none⟩) cap (q + 1) := ⟨_, rfl⟩
  obtain ⟨n2, hn2⟩ : ∃ n2, n2 = n - (q + 1) := ⟨_, rfl⟩
  obtain ⟨c2, hc2⟩ : ∃ c2, c2 = cap - (q + 1) := ⟨_, rfl⟩
  have hD2 := h.row.nl.drop (by rw [← hnn]; exact hcap) (q + 1)
  rw [← ha2] at hcut2 hD2
  rw [← hn2, ← hc2] at hcut2
  have hD1 := h.row.nl.take q
  have hs1 : IntKind.i64.wrap ((q : Int) + 1) = (q : Int) + 1 := IntWalk.i64_in _ (by omega)
  have h2none : a2 = none → c2 = 0 := fun h0 => by
    rw [ha2] at h0
    unfold cut4 at h0
    split at h0 <;> simp at h0
  have HD1 := Lib.hid hD1
  have HD2 := Lib.hid hD2
  have H2N := Lib.hid h2none
  have hl1 : (nc (X.take q)).length = q * 4 := by rw [nc_length, List.length_take, ← hnn, Nat.min_eq_left (by omega)]
  have hl2 : (nc (X.drop (q + 1))).length = n2 * 4 := by rw [nc_length, List.length_drop, ← hnn, hn2]
  have hm1 : q = (X.take q).length := by rw [List.length_take, ← hnn, Nat.min_eq_left (by omega)]
  have hm2 : n2 = (X.drop (q + 1)).length := by rw [List.length_drop, ← hnn, hn2]
  have HL1 := Lib.hid hl1
  have HL2 := Lib.hid hl2
  have HM1 := Lib.hid hm1
  have HM2 := Lib.hid hm2
  have hfit1 : 0 + q ≤ 1000000000 := by omega
  have hfit2 : q + n2 ≤ 1000000000 := by omega
  have hfit3 : q + n2 ≤ 256 := by omega
  obtain ⟨wA, hA⟩ : ∃ wA, wA = w.alloc (.cells #[] 44) := ⟨_, rfl⟩
  have hfA : Frm [] w wA := by rw [hA]; exact (Frm.refl _ _).alloc _
  have cA := (hfA.whole HH.out.tree (by simp)).cell 0
  rw [← HN.out] at cA
  simp at cA
  rw [hA] at cA
  clear hnn hn2 hc2 ha2 hD1 hD2 h2none hl1 hl2 hm1 hm2 hF hq hin hver h hfA hA
  go_enter Try.func16, Try.ntmps16
  go_wp2_with fail
  refine HR.out.mono ?_
  rintro e w' ⟨rfl, rfl⟩
  go_wp2
  have cp : ∀ z, Frm [] w z → z.cell? ⟨p, 0, none⟩ = some (.slice (some ⟨b, off, none⟩) n cap) := fun z hz => (hz.cell (block_lt_of_cell c0) (by simp)).trans c0
  have V1 := Lib.hid (fun (z : World) (hz : Frm [] w z) => (HD1.out.keep (F' := p :: F) hz (by simp) (fun x h => .inl h)).vals)
  have V2 := Lib.hid (fun (z : World) (hz : Frm [] w z) => (HD2.out.keep (F' := p :: F) hz (by simp) (fun x h => .inl h)).vals)
  have LIT := Lib.hid (fun (z : World) (hz : Frm [] w z) => (show (z.alloc (.cells #[] 44)).ownsRow w.heap.size 44 4 (.slice (some ⟨z.heap.size, 0, none⟩) 0 0) 0 (nc []) from World.ownsRow_lit z #[] 0 hz.size (by unfold maxLen; omega) rfl))
  have FRZ := Lib.hid (fun (z : World) (hz : Frm [] w z) => (hz.whole HH.out.tree (by simp)).free 0)
  have OLN := Lib.hid (fun (z : World) (hz : Frm [] w z) => (show NOwn (z.alloc (.cells #[] 44)) w.heap.size 44 (p :: F) (some ⟨z.heap.size, 0, none⟩) 0 [] from ⟨World.ownsRow_lit z #[] 0 hz.size (by unfold maxLen; omega) rfl, NOk.nil _ _, fun g hg hm => by
    simp at hg; subst hg; have h1 := HPF.out _ hm; have h2 := hz.size; omega⟩))
  have f00 : Frm [] w w.drew := (Frm.refl [] w).drew
  go_region_law (first
    | (refine step_appS (by rfl) (.tmp 24) (.tmp 30) 27 rfl w.heap.size 44 i0 (.agg #[.string ⟨#[]⟩, .slice none 0 0, .int .u64 0, .int .u64 0]) 4 56 Try.underlying27 HI.out HZ0.out rfl (by decide) HZ1.out HZ2.out (by decide) _ 0 _ rfl (LIT.out w.drew f00) _ q cap _ rfl (V1.out _ (f00.alloc _)) HL1.out (nc_one _) (fun h => by cases h) hfit1 (f00.alloc _).size q (by omega) ?_; intro a3 c3 w3 happ3; have f3 : Frm [] w w3 := frm_lit f00 happ3; have O3 : Hid (w3.ownsRow w.heap.size 44 4 (.slice a3 q c3) q (nc (X.take q))) := (by have h := happ3.own; rw [Nat.zero_add] at h; exact Lib.hid h); have A3 := Lib.hid happ3; clear happ3; have cp3 := cp _ f3)
    | (refine step_appS (by rfl) (.tmp 31) (.tmp 38) 27 rfl w.heap.size 44 i0 (.agg #[.string ⟨#[]⟩, .slice none 0 0, .int .u64 0, .int .u64 0]) 4 56 Try.underlying27 HI.out HZ0.out rfl (by decide) HZ1.out HZ2.out (by decide) _ q _ rfl O3.out _ n2 c2 _ rfl (V2.out _ f3) HL2.out (nc_one _) H2N.out hfit2 f3.size (q + n2) rfl ?_; intro a4 c4 w4 happ4; have f4 : Frm [] w w4 := frm_app f3 happ4 (fun g hg => (World.ownsRow.lt O3.out g hg).1); have A4 := Lib.hid happ4; clear happ4; have cp4 := cp _ f4; have fp4 := FRZ.out _ f4))
  all_goals
    have hoka : ∀ (z : World) (G : List Nat) (Y : List Nx), Frm [] w z → (∀ x ∈ G, w.heap.size ≤ x) → NOk w (p :: F) Y → NOk z (G ++ (p :: F)) Y := fun z G Y hz hG hY => hY.keep hz (by simp) (fun x hx => by
      rcases List.mem_append.1 hx with h1 | h1
      · exact .inr (hG x h1)
      · exact .inl h1)
    obtain ⟨g1, g2, g3, g4⟩ := (OLN.out w.drew f00).app (X := []) rfl (hoka _ _ _ (f00.alloc _) (fun x hx => by simp at hx; subst hx; exact f00.size) HD1.out.ok) HM1.out (fun x hx => Nat.lt_of_lt_of_le (HPF.out x hx) (f00.alloc _).size) A3.out
    rw [List.nil_append] at g1
    obtain ⟨k1, k2, k3, k4⟩ := g1.app HM1.out (hoka _ _ _ f3 (fun x hx => (g1.blk_lt x hx).1) HD2.out.ok) HM2.out (fun x hx => Nat.lt_of_lt_of_le (HPF.out x hx) f3.size) A4.out
    have hst := Rt.store HH.out f4 k1 (by rw [← k4]; omega)
    rw [← k4] at hst
    have HST := Lib.hid hst
    clear hoka g1 g2 g3 g4 k1 k2 k3 k4 hst A3 A4 O3 cp cp3 cp4 fp4 f3 f4 f00
    go_wp2
    go_ret
    exact ⟨rfl, HST.out⟩

def DelEnd (w : World) (B p : Nat) (F : List Nat) (X' : List Nx) (code : Nat) (e : Ending) (w' : World) : Prop :=
  e = .returned (.int .i64 (code : Nat)) ∧ ∃ a' c', Rt w' B p F a' c' X' ∧ Frm [p] w w'
theorem rdel_any {w : World} {B p : Nat} {F : List Nat} {a : Option Addr} {cap : Nat} {X : List Nx} (s : ByteArray) (want : Nat) (h : Rt w B p F a cap X) (hF : ∀ x ∈ F, x < w.heap.size) :
    Calls Try.prog 16 #[.pointer (some ⟨p, 0, none⟩), .string s, .int .u64 (want : Nat)] w (DelEnd w B p F (if delC X s want = 0 then X.take (atN X s) ++ X.drop (atN X s + 1) else X) (delC X s want)) := by
  by_cases hc : delC X s want = 0
  · rw [if_pos hc, hc]
    have hc2 := hc
    unfold delC at hc2
    split at hc2
    · omega
    · split at hc2
      · omega
      · rename_i h1 h2
        refine (rdel_ok s want (atN X s) h hF rfl (by omega) (by omega)).mono ?_
        rintro e w' ⟨he, a', c', hr, hf, _⟩
        exact ⟨he, a', c', hr, hf⟩
  · rw [if_neg hc]
    refine (rdel_bad s want h hc).mono ?_
    rintro e w' ⟨he, rfl⟩
    exact ⟨he, a, cap, h, Frm.refl _ _⟩
end Go.Proofs.Ytchhbmhnjknhaaa
