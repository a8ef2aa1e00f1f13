/- Contract of the program's Expire. -/
import Derived.Test.YtefplgligmkbiaaBkNew
import Derived.Test.YtefplgligmkbiaaBkFind
import Derived.Test.YtefplgligmkbiaaRbExpire
import Derived.Laws.Rows
import Derived.Deep.WholeRow
namespace Go.Proofs.Ytefplgligmkbiaa
open Go.RowKit

/-- The loop of the program's Expire. -/
def PxRel (w : World) (g last now : Nat) (X : List Sn) (s5 s19 : Value) (wr : World) : Prop :=
  ∃ (k : Nat) (ga : Option Addr) (gc gn : Nat) (Y : List Sn), k ≤ X.length ∧ s19 = .int .i64 (k : Nat) ∧ s5 = .slice ga gn gc ∧ Hid (gn = (goneS now (X.take k)).length) ∧
    Hid (wr.ownsRow w.heap.size 22 1 (.slice ga gn gc) gn (uvs (goneS now (X.take k)))) ∧ Hid (Bk wr w.heap.size g 63 last (leftS now (X.take k)) Y) ∧ Hid (Frm [] w wr)
/-- What Expire answers and leaves. -/
def PxEnd (w : World) (B p : Nat) (last' : Nat) (X' : List Sn) (G : List Nat) (e : Ending) (w' : World) : Prop :=
  ∃ ga gc, e = .returned (.slice ga G.length gc) ∧ (∀ q, ga = some q → w.heap.size ≤ q.block) ∧ ValsAt w' ga (uvs G) ∧ BkTo w w' B p last' X'
theorem bk_all (last n : Nat) (Y : List Sn) : (bkL last n Y).toArray.all (·.oneCell') = true := by
  rw [Array.all_eq_true_iff_forall_mem]
  intro u hu
  exact bkL_one last n Y u (by simpa using hu)
theorem size63 (l : List Value) (h : l.length = 50) : (Try.prog.info? 63).map (·.size) = some l.toArray.size := by
  have e : (Try.prog.info? 63).map (·.size) = some 50 := by kernel_rfl
  rw [e, List.size_toArray, h]
theorem new_row (w : World) (last : Nat) : (Try.prog.info? 63).map (·.size) = some (#[.int .u64 (last : Nat), .int .i64 0, .int .u64 0, .int .u64 0, .int .u64 0, .int .u64 0, .int .u64 0, .int .u64 0, .int .u64 0, .int .u64 0, .int .u64 0, .int .u64 0, .int .u64 0, .int .u64 0, .int .u64 0, .int .u64 0, .int .u64 0, .int .u64 0, .int .u64 0, .int .u64 0, .int .u64 0, .int .u64 0, .int .u64 0, .int .u64 0, .int .u64 0, .int .u64 0, .int .u64 0, .int .u64 0, .int .u64 0, .int .u64 0, .int .u64 0, .int .u64 0, .int .u64 0, .int .u64 0, .int .u64 0, .int .u64 0, .int .u64 0, .int .u64 0, .int .u64 0, .int .u64 0, .int .u64 0, .int .u64 0, .int .u64 0, .int .u64 0, .int .u64 0, .int .u64 0, .int .u64 0, .int .u64 0, .int .u64 0, .int .u64 0] : Array Value).size ∧ (#[.int .u64 (last : Nat), .int .i64 0, .int .u64 0, .int .u64 0, .int .u64 0, .int .u64 0, .int .u64 0, .int .u64 0, .int .u64 0, .int .u64 0, .int .u64 0, .int .u64 0, .int .u64 0, .int .u64 0, .int .u64 0, .int .u64 0, .int .u64 0, .int .u64 0, .int .u64 0, .int .u64 0, .int .u64 0, .int .u64 0, .int .u64 0, .int .u64 0, .int .u64 0, .int .u64 0, .int .u64 0, .int .u64 0, .int .u64 0, .int .u64 0, .int .u64 0, .int .u64 0, .int .u64 0, .int .u64 0, .int .u64 0, .int .u64 0, .int .u64 0, .int .u64 0, .int .u64 0, .int .u64 0, .int .u64 0, .int .u64 0, .int .u64 0, .int .u64 0, .int .u64 0, .int .u64 0, .int .u64 0, .int .u64 0, .int .u64 0, .int .u64 0] : Array Value).all (·.oneCell') = true ∧
    (w.alloc (.cells #[.int .u64 0, .int .i64 0, .int .u64 0, .int .u64 0, .int .u64 0, .int .u64 0, .int .u64 0, .int .u64 0, .int .u64 0, .int .u64 0, .int .u64 0, .int .u64 0, .int .u64 0, .int .u64 0, .int .u64 0, .int .u64 0, .int .u64 0, .int .u64 0, .int .u64 0, .int .u64 0, .int .u64 0, .int .u64 0, .int .u64 0, .int .u64 0, .int .u64 0, .int .u64 0, .int .u64 0, .int .u64 0, .int .u64 0, .int .u64 0, .int .u64 0, .int .u64 0, .int .u64 0, .int .u64 0, .int .u64 0, .int .u64 0, .int .u64 0, .int .u64 0, .int .u64 0, .int .u64 0, .int .u64 0, .int .u64 0, .int .u64 0, .int .u64 0, .int .u64 0, .int .u64 0, .int .u64 0, .int .u64 0, .int .u64 0, .int .u64 0] 63)).setRow w.heap.size #[.int .u64 (last : Nat), .int .i64 0, .int .u64 0, .int .u64 0, .int .u64 0, .int .u64 0, .int .u64 0, .int .u64 0, .int .u64 0, .int .u64 0, .int .u64 0, .int .u64 0, .int .u64 0, .int .u64 0, .int .u64 0, .int .u64 0, .int .u64 0, .int .u64 0, .int .u64 0, .int .u64 0, .int .u64 0, .int .u64 0, .int .u64 0, .int .u64 0, .int .u64 0, .int .u64 0, .int .u64 0, .int .u64 0, .int .u64 0, .int .u64 0, .int .u64 0, .int .u64 0, .int .u64 0, .int .u64 0, .int .u64 0, .int .u64 0, .int .u64 0, .int .u64 0, .int .u64 0, .int .u64 0, .int .u64 0, .int .u64 0, .int .u64 0, .int .u64 0, .int .u64 0, .int .u64 0, .int .u64 0, .int .u64 0, .int .u64 0, .int .u64 0] = w.alloc (.cells #[.int .u64 (last : Nat), .int .i64 0, .int .u64 0, .int .u64 0, .int .u64 0, .int .u64 0, .int .u64 0, .int .u64 0, .int .u64 0, .int .u64 0, .int .u64 0, .int .u64 0, .int .u64 0, .int .u64 0, .int .u64 0, .int .u64 0, .int .u64 0, .int .u64 0, .int .u64 0, .int .u64 0, .int .u64 0, .int .u64 0, .int .u64 0, .int .u64 0, .int .u64 0, .int .u64 0, .int .u64 0, .int .u64 0, .int .u64 0, .int .u64 0, .int .u64 0, .int .u64 0, .int .u64 0, .int .u64 0, .int .u64 0, .int .u64 0, .int .u64 0, .int .u64 0, .int .u64 0, .int .u64 0, .int .u64 0, .int .u64 0, .int .u64 0, .int .u64 0, .int .u64 0, .int .u64 0, .int .u64 0, .int .u64 0, .int .u64 0, .int .u64 0] 63) :=
  ⟨size63 (bkL last 0 (List.replicate 16 ⟨0, 0, 0⟩)) (by rw [bkL_length]; simp), bk_all last 0 (List.replicate 16 ⟨0, 0, 0⟩), World.setRow_alloc_new _ _ _ _⟩
theorem frm_row (w : World) (p : Nat) (cs : Array Value) : Frm [p] w (w.setRow p cs) := ⟨rfl, rfl, rfl, by simp [World.setRow], fun k _ hk => setRow_other w p k _ (fun e => hk (by simp [e]))⟩
/-- The whole book is stored. -/
theorem Bk.whole {w w1 : World} {B p g last n0 l0 : Nat} {X Y Y0 : List Sn} (hw : Whole w1 p 63 (bkL l0 n0 Y0).toArray) (h : Bk w1 w.heap.size g 63 last X Y) (hp : B ≤ p) (hf : Frm [] w w1) :
    BkTo w (w1.setRow p (bkL last X.length Y).toArray) B p last X := by
  have hs : Frm [p] w1 (w1.setRow p (bkL last X.length Y).toArray) := ⟨rfl, rfl, rfl, by simp [World.setRow], fun k _ hk => setRow_other w1 p k _ (fun e => hk (by simp [e]))⟩
  refine ⟨⟨Y, ⟨setRow_heap w1 p (bkL l0 n0 Y0).toArray _ 63 _ hw, h.pre, h.len, h.fits, hp, h.lt, h.srt⟩⟩, (hf.weak (by simp)).trans hs (fun x hx => hx) (fun x hx => .inl hx)⟩

set_option maxRecDepth 100000 in
set_option maxHeartbeats 8000000 in
theorem expire_any {w : World} {B p last : Nat} {X Y : List Sn} (now : Nat) (h : Bk w B p 63 last X Y) :
    Calls Try.prog 18 #[.pointer (some ⟨p, 0, none⟩), .int .u64 (now : Nat)] w (PxEnd w B p last (leftS now X) (goneS now X)) := by
  obtain ⟨i1, hi, hz0, hz1, hz2⟩ := info_parts Try.info22
  have UI := Lib.hid hi; clear hi
  have UZ0 := Lib.hid hz0; clear hz0
  have UZ1 := Lib.hid hz1; clear hz1
  have UZ2 := Lib.hid hz2; clear hz2
  have HH := Lib.hid h
  have hn16 := h.few
  have c0 := h.c0
  obtain ⟨n, hnn⟩ : ∃ n, n = X.length := ⟨_, rfl⟩
  have HN := Lib.hid hnn
  rw [← hnn] at hn16
  have HSE := Lib.hid (fun (z : World) (hz : Frm [] w z) => sessions_any (h.keep hz (by simp)))
  rw [← hnn] at HSE
  have HAT := Lib.hid (fun (z : World) (hz : Frm [] w z) (k : Nat) (hk : k < X.length) => (h.keep hz (by simp)).at hk)
  have HWP := Lib.hid (fun (z : World) (hz : Frm [] w z) => (hz.whole h.book (by simp)))
  clear h hnn
  go_enter Try.func18, Try.ntmps18
  obtain ⟨k1, k2, k3⟩ := new_row w last
  have K1 := Lib.hid k1
  have K2 := Lib.hid k2
  have K3 := Lib.hid k3
  clear k1 k2 k3
  go_wp2_with (refine wpList_plain rfl fun _ hK => wp_store_row 63 (.tmp 6) (.tmp 15) rfl w.heap.size #[.int .u64 (last : Nat), .int .i64 0, .int .u64 0, .int .u64 0, .int .u64 0, .int .u64 0, .int .u64 0, .int .u64 0, .int .u64 0, .int .u64 0, .int .u64 0, .int .u64 0, .int .u64 0, .int .u64 0, .int .u64 0, .int .u64 0, .int .u64 0, .int .u64 0, .int .u64 0, .int .u64 0, .int .u64 0, .int .u64 0, .int .u64 0, .int .u64 0, .int .u64 0, .int .u64 0, .int .u64 0, .int .u64 0, .int .u64 0, .int .u64 0, .int .u64 0, .int .u64 0, .int .u64 0, .int .u64 0, .int .u64 0, .int .u64 0, .int .u64 0, .int .u64 0, .int .u64 0, .int .u64 0, .int .u64 0, .int .u64 0, .int .u64 0, .int .u64 0, .int .u64 0, .int .u64 0, .int .u64 0, .int .u64 0, .int .u64 0, .int .u64 0] rfl rfl 63 #[.int .u64 0, .int .i64 0, .int .u64 0, .int .u64 0, .int .u64 0, .int .u64 0, .int .u64 0, .int .u64 0, .int .u64 0, .int .u64 0, .int .u64 0, .int .u64 0, .int .u64 0, .int .u64 0, .int .u64 0, .int .u64 0, .int .u64 0, .int .u64 0, .int .u64 0, .int .u64 0, .int .u64 0, .int .u64 0, .int .u64 0, .int .u64 0, .int .u64 0, .int .u64 0, .int .u64 0, .int .u64 0, .int .u64 0, .int .u64 0, .int .u64 0, .int .u64 0, .int .u64 0, .int .u64 0, .int .u64 0, .int .u64 0, .int .u64 0, .int .u64 0, .int .u64 0, .int .u64 0, .int .u64 0, .int .u64 0, .int .u64 0, .int .u64 0, .int .u64 0, .int .u64 0, .int .u64 0, .int .u64 0, .int .u64 0, .int .u64 0] (heap_alloc_new w _) K1.out rfl K2.out (hK _ _ ?_))
  rw [K3.out]
  have hbk0 := Bk.made w last HH.out.lt
  have hf20 : Frm [] w (w.alloc (.cells #[.int .u64 (last : Nat), .int .i64 0, .int .u64 0, .int .u64 0, .int .u64 0, .int .u64 0, .int .u64 0, .int .u64 0, .int .u64 0, .int .u64 0, .int .u64 0, .int .u64 0, .int .u64 0, .int .u64 0, .int .u64 0, .int .u64 0, .int .u64 0, .int .u64 0, .int .u64 0, .int .u64 0, .int .u64 0, .int .u64 0, .int .u64 0, .int .u64 0, .int .u64 0, .int .u64 0, .int .u64 0, .int .u64 0, .int .u64 0, .int .u64 0, .int .u64 0, .int .u64 0, .int .u64 0, .int .u64 0, .int .u64 0, .int .u64 0, .int .u64 0, .int .u64 0, .int .u64 0, .int .u64 0, .int .u64 0, .int .u64 0, .int .u64 0, .int .u64 0, .int .u64 0, .int .u64 0, .int .u64 0, .int .u64 0, .int .u64 0, .int .u64 0] 63)) := (Frm.refl _ _).alloc _
  obtain ⟨g, hg⟩ : ∃ g, g = w.heap.size := ⟨_, rfl⟩
  obtain ⟨w2, hw2⟩ : ∃ w2, w2 = w.alloc (.cells #[.int .u64 (last : Nat), .int .i64 0, .int .u64 0, .int .u64 0, .int .u64 0, .int .u64 0, .int .u64 0, .int .u64 0, .int .u64 0, .int .u64 0, .int .u64 0, .int .u64 0, .int .u64 0, .int .u64 0, .int .u64 0, .int .u64 0, .int .u64 0, .int .u64 0, .int .u64 0, .int .u64 0, .int .u64 0, .int .u64 0, .int .u64 0, .int .u64 0, .int .u64 0, .int .u64 0, .int .u64 0, .int .u64 0, .int .u64 0, .int .u64 0, .int .u64 0, .int .u64 0, .int .u64 0, .int .u64 0, .int .u64 0, .int .u64 0, .int .u64 0, .int .u64 0, .int .u64 0, .int .u64 0, .int .u64 0, .int .u64 0, .int .u64 0, .int .u64 0, .int .u64 0, .int .u64 0, .int .u64 0, .int .u64 0, .int .u64 0, .int .u64 0] 63) := ⟨_, rfl⟩
  rw [← hw2] at hbk0 hf20 ⊢
  have hbk1 : Bk w2 w.heap.size g 63 last [] (List.replicate 16 ⟨0, 0, 0⟩) := by rw [hg]; exact hbk0
  rw [← hg]
  have HBK0 := Lib.hid hbk1
  have HF20 := Lib.hid hf20
  have HGG : Hid (w.heap.size ≤ g) := Lib.hid (Nat.le_of_eq hg.symm)
  clear hbk0 hbk1 hf20 hw2 hg K1 K2 K3
  (with_reducible refine (HSE.out _ HF20.out).mono ?_)
  rintro e w3 ⟨rfl, hf3⟩
  have h0 : PxRel w g last now X (.slice none 0 0) (.int .i64 0) w3 :=
    ⟨0, none, 0, 0, _, Nat.zero_le _, rfl, rfl, Lib.hid rfl, Lib.hid (World.ownsRow_nil _ _ _ _), Lib.hid (HBK0.out.keep hf3 (by simp)), Lib.hid (HF20.out.trans hf3 (U := []) (by simp) (by simp))⟩
  have HR0 := Lib.hid h0
  clear h0 hf3 HF20 HBK0 HSE
  go_wp2
  go_loopw [5, 19] (fun s5 s19 wr => PxRel w g last now X s5 s19 wr) (fun _ s19 _ => n - (intOf s19).toNat)
  case atStart => exact HR0.out
  case round =>
    obtain ⟨k, ga, gc, gn, Z, hk, rfl, rfl, HGN, HGO, HLB, HF⟩ := hrel
    rw [← HN.out] at hk
    by_cases hlt : k < n
    · have hkX : k < X.length := by rw [← HN.out]; exact hlt
      obtain ⟨p0, p1, p2, hxf⟩ := HAT.out _ HF.out k hkX
      obtain ⟨x, hx⟩ : ∃ x, x = X.getD k default := ⟨_, rfl⟩
      rw [← hx] at p0 p1 p2 hxf
      have hgk : gn ≤ k := by rw [HGN.out]; exact goneS_len now X k
      have hov := Lib.hid (fun w => over_any (w := w) x now)
      unfold Sn.val at hov
      by_cases hover : x.ends ≤ now
      · rw [show decide (x.ends ≤ now) = true from decide_eq_true hover] at hov
        obtain ⟨e1, e2⟩ := goneS_y hkX (by rw [← hx]; exact hover)
        rw [← hx] at e1
        obtain ⟨xi, xe, xl⟩ := x
        simp only at p0 p1 p2 hover e1 hov
        have E1 := Lib.hid e1
        have E2 := Lib.hid e2
        clear e1 e2 hx hkX hxf hover
        go_wp2_with fail
        obtain ⟨w4, hw4⟩ : ∃ w4, w4 = wr.alloc (.cells #[.int .u64 (xi : Nat), .int .u64 (xe : Nat), .int .u64 (xl : Nat)] 56) := ⟨_, rfl⟩
        have hwb : Whole w4 wr.heap.size 56 #[.int .u64 (xi : Nat), .int .u64 (xe : Nat), .int .u64 (xl : Nat)] := by rw [hw4]; exact Whole.made _ _ _
        have hf4 : Frm [] wr w4 := by rw [hw4]; exact (Frm.refl _ _).alloc _
        rw [← hw4]
        obtain ⟨gs, hgs⟩ : ∃ gs, gs = wr.heap.size := ⟨_, rfl⟩
        rw [← hgs] at hwb ⊢
        have HWB := Lib.hid hwb
        have HF4 := Lib.hid hf4
        clear hw4 hgs hwb hf4 p0 p1 p2
        (with_reducible refine (hov.out _).mono ?_)
        rintro e w5 ⟨rfl, hf5⟩
        have b0 := (hf5.whole HWB.out (by simp)).cell 0
        simp at b0
        have HF5 : Hid (Frm [] wr w5) := Lib.hid (HF4.out.trans hf5 (U := []) (by simp) (by simp))
        have HGO5 : Hid (w5.ownsRow w.heap.size 22 1 (.slice ga gn gc) gn (uvs (goneS now (X.take k)))) := Lib.hid (HF5.out.own HGO.out (by simp))
        have HSZ5 : Hid (w.heap.size ≤ w5.heap.size) := Lib.hid (Nat.le_trans HF.out.size HF5.out.size)
        clear hf5 HWB HF4
        go_wp2_with (at_builtin; refine wpList_appV rfl (.tmp 26) (.tmp 29) 44 rfl w.heap.size 22 i1 (.int .u64 0) 8 Try.underlying44 UI.out UZ0.out rfl UZ1.out UZ2.out (by decide) (.slice ga gn gc) gn _ rfl (World.ownsRow.alloc HGO5.out _) (some ⟨w5.heap.size, 0, none⟩) 1 1 (uvs [xi]) rfl ?b1 rfl (uvs_one _) (fun h => by cases h) (by omega) (by have := HSZ5.out; simp; omega) ?_)
        case b1 => exact .inr ⟨_, _, rfl, fun i u hu => by rw [(Whole.made w5 _ _).cell, Nat.zero_add]; rw [← hu]; simp [uvs]⟩
        intro ga' gc' w6 happ
        have hf6 : Frm (blk ga) w5 w6 := (((Frm.refl (blk ga) w5).alloc _).grown happ.grown (fun k hk => .inl (ownBlk3.1 hk)))
        have hown6 := happ.own
        rw [← uvs_append, ← E1.out] at hown6
        have hlb5 := HLB.out.keep HF5.out (by simp)
        have hlb6 := hlb5.keep hf6 (fun hm => own_ne HGO5.out hlb5.book (by decide) (ownBlk3.2 hm))
        rw [← E2.out] at hlb6
        have hfw5 : Frm [] w w5 := HF.out.trans HF5.out (U := []) (by simp) (by simp)
        have hfw6 : Frm [] w w6 := hfw5.trans hf6 (U := []) (by simp) (fun x hx => .inr (World.ownsRow.lt HGO.out x (ownBlk3.2 hx)).1)
        have G6 := Lib.hid hown6
        have L6 := Lib.hid hlb6
        have F6 := Lib.hid hfw6
        have N6 : Hid (gn + 1 = (goneS now (X.take (k + 1))).length) := Lib.hid (by rw [E1.out, List.length_append, ← HGN.out]; rfl)
        clear happ hf6 hown6 hlb5 hlb6 hfw5 hfw6 b0
        go_wp2
        go_roundw
        case rel => exact ⟨k + 1, ga', gc', gn + 1, Z, by rw [← HN.out]; omega, by go_num, rfl, N6, G6, L6, F6⟩
        case measure => simp [intOf]; omega
      · rw [show decide (x.ends ≤ now) = false from decide_eq_false hover] at hov
        obtain ⟨e1, e2⟩ := goneS_n hkX (by rw [← hx]; exact hover)
        rw [← hx] at e2
        have hlen : (leftS now (X.take k)).length < 16 := by have := leftS_len now X k; omega
        have hsrt : SrtS last (leftS now (X.take k) ++ [x]) := by
          rw [← e2]
          exact HH.out.srt.sub ((leftS_sub now _).trans (List.take_sublist _ _))
        have HAD := Lib.hid (fun (z : World) (hz : Frm [] wr z) => add_any (w := z) x (HLB.out.keep hz (by simp)) hxf hlen hsrt)
        unfold Sn.val at HAD
        obtain ⟨xi, xe, xl⟩ := x
        simp only at p0 p1 p2 hover hov HAD
        have E1 := Lib.hid e1
        have E2 := Lib.hid e2
        clear e1 e2 hx hkX hxf hover hlen hsrt
        go_wp2_with fail
        obtain ⟨w4, hw4⟩ : ∃ w4, w4 = wr.alloc (.cells #[.int .u64 (xi : Nat), .int .u64 (xe : Nat), .int .u64 (xl : Nat)] 56) := ⟨_, rfl⟩
        have hwb : Whole w4 wr.heap.size 56 #[.int .u64 (xi : Nat), .int .u64 (xe : Nat), .int .u64 (xl : Nat)] := by rw [hw4]; exact Whole.made _ _ _
        have hf4 : Frm [] wr w4 := by rw [hw4]; exact (Frm.refl _ _).alloc _
        rw [← hw4]
        obtain ⟨gs, hgs⟩ : ∃ gs, gs = wr.heap.size := ⟨_, rfl⟩
        rw [← hgs] at hwb ⊢
        have HWB := Lib.hid hwb
        have HF4 := Lib.hid hf4
        clear hw4 hgs hwb hf4 p0 p1 p2
        (with_reducible refine (hov.out _).mono ?_)
        rintro e w5 ⟨rfl, hf5⟩
        have b0 := (hf5.whole HWB.out (by simp)).cell 0
        have b1 := (hf5.whole HWB.out (by simp)).cell 1
        have b2 := (hf5.whole HWB.out (by simp)).cell 2
        simp at b0 b1 b2
        have HF5 : Hid (Frm [] wr w5) := Lib.hid (HF4.out.trans hf5 (U := []) (by simp) (by simp))
        clear hf5 HWB HF4
        go_wp2_with fail
        (with_reducible refine (HAD.out _ HF5.out).mono ?_)
        rintro e w6 ⟨rfl, ⟨Y6, hb6⟩, hf6⟩
        rw [← E2.out] at hb6
        have hgo6 := hf6.own (HF5.out.own HGO.out (by simp)) (fun q hq hm => own_ne HGO.out HLB.out.book (by decide) (by simp at hm; rw [← hm]; exact hq))
        rw [← E1.out] at hgo6
        have hfw6 : Frm [] w w6 := (HF.out.trans HF5.out (U := []) (by simp) (by simp)).trans hf6 (U := []) (by simp) (fun x hx => .inr (by simp at hx; subst hx; exact HGG.out))
        have G6 := Lib.hid hgo6
        have L6 := Lib.hid hb6
        have F6 := Lib.hid hfw6
        have N6 : Hid (gn = (goneS now (X.take (k + 1))).length) := Lib.hid (by rw [E1.out]; exact HGN.out)
        clear hb6 hf6 hgo6 hfw6 b0 b1 b2
        go_wp2
        go_roundw
        case rel => exact ⟨k + 1, ga, gc, gn, Y6, by rw [← HN.out]; omega, by go_num, rfl, N6, G6, L6, F6⟩
        case measure => simp [intOf]; omega
    · obtain rfl : k = n := by omega
      have et : X.take k = X := by rw [HN.out]; exact List.take_length
      rw [et] at HGN HGO HLB
      have hend := Bk.whole (B := B) (HWP.out _ HF.out) HLB.out HH.out.hp HF.out
      obtain ⟨CS, hCS⟩ : ∃ CS, CS = (bkL last (leftS now X).length Z).toArray := ⟨_, rfl⟩
      have hcs1 : (Try.prog.info? 63).map (·.size) = some CS.size := by rw [hCS]; exact size63 _ (by rw [bkL_length, HLB.out.len])
      have hcs2 : CS.all (·.oneCell') = true := by rw [hCS]; exact bk_all _ _ _
      have hcs3 : Whole wr g 63 CS := by rw [hCS]; exact HLB.out.book
      have hcs4 : (bkL last X.length Y).toArray.size = CS.size := by rw [hCS, List.size_toArray, List.size_toArray, bkL_length, bkL_length, HLB.out.len, HH.out.len]
      rw [← hCS] at hend
      have hgv : ValsAt (wr.setRow p CS) ga (uvs (goneS now X)) := own_vals ((frm_row wr p CS).own HGO.out (fun g hg hm => by
        have h1 := (World.ownsRow.lt HGO.out g hg).1
        have h2 := HH.out.book.lt
        simp at hm
        omega))
      have HE := Lib.hid hend
      have HV := Lib.hid hgv
      have HGA : Hid (∀ q, ga = some q → w.heap.size ≤ q.block) := Lib.hid (fun q hq => (World.ownsRow.lt HGO.out q.block (by rw [hq]; rfl)).1)
      have P1 := Lib.hid hcs1
      have P2 := Lib.hid hcs2
      have P3 := Lib.hid hcs3
      have P4 := Lib.hid hcs4
      have P5 := Lib.hid (HWP.out _ HF.out)
      clear hend hgv hcs1 hcs2 hcs3 hcs4 hCS
      go_wp2_with (first
        | (refine wpList_load_row rfl 63 (.tmp 6) rfl g rfl 63 CS (0, 0) _ P3.out Try.underlying63 rfl P1.out ?_)
        | (refine wpList_plain rfl fun _ hK => wp_store_row 63 (.tmp 36) (.tmp 35) rfl p CS rfl rfl 63 _ P5.out P1.out P4.out P2.out (hK _ _ ?_)))
      go_ret
      exact ⟨ga, gc, by rw [← HGN.out]; rfl, HGA.out, HV.out, HE.out⟩
end Go.Proofs.Ytefplgligmkbiaa
