/- Contract of the law's did: both nodes answer the same. -/
import Derived.Test.YtamcandcfainfaaGreatZT9
import Derived.Test.YtamcandcfainfaaGreatZInSa
import Derived.Test.YtamcandcfainfaaGreatZSpoil
import Derived.Test.YtamcandcfainfaaGreatZRlPutN
import Derived.Deep.RegionLaw
namespace Go.Proofs.YtamcandcfainfaaGreat
open Go.RowKit
set_option maxRecDepth 100000
/-- The entry that the law makes: at block xb, its bytes a row of its own. -/
structure OneX (w wx : World) (xb : Nat) (av : Option Addr) (cv k n : Nat) (d : List Nat) : Prop where
  box : Whole wx xb 57 #[.int .u64 (k : Nat), .slice av n cv]
  row : wx.ownsRow w.heap.size 5 1 (.slice av n cv) n (d.map u8v)
  frm : Frm [] w wx
  new : w.heap.size ≤ xb
  off : xb ∉ blk av
  blt : ∀ x ∈ blk av, w.heap.size ≤ x ∧ x < wx.heap.size
theorem onex_made {w w2 : World} {xb : Nat} {av : Option Addr} {cv k n : Nat} {d : List Nat} (hx : Whole w2 xb 57 #[.int .u64 0, .slice none 0 0]) (hf : Frm [] w w2) (hnew : w.heap.size ≤ xb) (ho : w2.ownsRow w.heap.size 5 1 (.slice av n cv) n (d.map u8v)) :
    OneX w ((w2.setCell ⟨xb, 0, none⟩ (.int .u64 (k : Nat))).setCell ⟨xb, 1, none⟩ (.slice av n cv)) xb av cv k n d := by
  have hh := (Hd.ofOwn ho).2
  have hoff : xb ∉ blk av := fun hm => hd_ne hh hx (by decide) hm
  have h2 := (hx.put 0 (.int .u64 (k : Nat))).put 1 (.slice av n cv)
  have hfs : Frm [xb] w2 ((w2.setCell ⟨xb, 0, none⟩ (.int .u64 (k : Nat))).setCell ⟨xb, 1, none⟩ (.slice av n cv)) := ((Frm.refl _ _).setCell (.inl (by simp)) _).setCell (.inl (by simp)) _
  have hfw : Frm [] w ((w2.setCell ⟨xb, 0, none⟩ (.int .u64 (k : Nat))).setCell ⟨xb, 1, none⟩ (.slice av n cv)) := hf.trans hfs (by simp) (fun x hx => .inr (by simp at hx; subst hx; exact hnew))
  have hb : ∀ x ∈ blk av, w.heap.size ≤ x ∧ x < w2.heap.size := hh.blk_lt
  exact ⟨by simpa using h2, hfs.own ho (fun g hg hm => hoff (by simp at hm; subst hm; exact ownBlk.1 hg)), hfw, hnew, hoff, fun x hx => ⟨(hb x hx).1, Nat.lt_of_lt_of_le (hb x hx).2 hfs.size⟩⟩
theorem onex_made2 {w w2 : World} {av : Option Addr} {cv k n : Nat} {d : List Nat} (hf : Frm [] w w2) (ho : w2.ownsRow w.heap.size 5 1 (.slice av n cv) n (d.map u8v)) :
    OneX w (w2.alloc (.cells #[.int .u64 (k : Nat), .slice av n cv] 57)) w2.heap.size av cv k n d := by
  have hfa : Frm [] w2 (w2.alloc (.cells #[.int .u64 (k : Nat), .slice av n cv] 57)) := (Frm.refl _ _).alloc _
  have hb : ∀ x ∈ blk av, w.heap.size ≤ x ∧ x < w2.heap.size := (Hd.ofOwn ho).2.blk_lt
  exact ⟨Whole.made _ _ _, hfa.own ho (by simp), hf.trans hfa (by simp) (by simp), hf.size, fun hm => by have := (hb _ hm).2; omega, fun x hx => ⟨(hb x hx).1, Nat.lt_of_lt_of_le (hb x hx).2 hfa.size⟩⟩
section
variable {w0 w : World} {Z : List Nat} {p dp q m room : Nat} {S : Nd9} {l : List Nat} {mm : Nat}
/-- What did leaves. -/
def Did9 (w0 w : World) (Z : List Nat) (p dp q m room mm : Nat) (e : Ending) (w' : World) : Prop :=
  e = .returned (.bool true) ∧ ∃ S' l', T9 w0 w' Z p dp q m room S' l' S' l' mm ∧ Off w0 w w' Z
set_option maxHeartbeats 16000000 in
theorem did9_any (t : Sa) (h : T9 w0 w Z p dp q m room S l S l mm) (hok : SaOk w t) (hlow : t.data ≠ [] → ∀ y, t.dataA = some y → y.block < w0.heap.size) (hd : t.data.length ≤ 500) (hm : mm ≤ 90000) (hZl : ∀ z ∈ Z, z < w.heap.size) :
    Calls Tryz.prog 9 #[.pointer (some ⟨p, 0, none⟩), .pointer (some ⟨q, 0, none⟩), t.value] w (Did9 w0 w Z p dp q m room (mm + 3)) := by
  obtain ⟨tk, tl, te, tr, tm, ts, ta, tc, td⟩ := t
  have hk6 : tk < 256 := hok.kind_lt
  have hl64 : tl < N64 := hok.led_lt
  have he64 : te < N64 := hok.ent_lt
  have hs64 : ts < N64 := hok.sure_lt
  have hbb : Bytes w ta td := hok.data_b
  have hbn : ta = none → tc = 0 := hok.data_nil
  simp only at hlow hd
  unfold Sa.value
  simp only
  obtain ⟨tn, htn⟩ : ∃ tn, tn = td.length := ⟨_, rfl⟩
  rw [← htn] at hd ⊢
  obtain ⟨wa, hwa⟩ : ∃ wa, wa = w.alloc (.cells #[.int .u8 (tk : Nat), .int .u64 (tl : Nat), .int .u64 (te : Nat), .bool tr, .bool tm, .int .u64 (ts : Nat), .slice ta tn tc] 43) := ⟨_, rfl⟩
  obtain ⟨g, hg⟩ : ∃ g, g = w.heap.size := ⟨_, rfl⟩
  have hWa := Whole.made w 43 #[.int .u8 (tk : Nat), .int .u64 (tl : Nat), .int .u64 (te : Nat), .bool tr, .bool tm, .int .u64 (ts : Nat), .slice ta tn tc]
  rw [← hwa, ← hg] at hWa
  have hfa : Frm [] w wa := by rw [hwa]; exact (Frm.refl _ _).alloc _
  have hT := h.here (Z' := g :: Z) hfa (fun x hx => by
    rcases List.mem_cons.1 hx with rfl | hx
    · exact .inr ⟨by omega, hWa.lt⟩
    · exact .inl hx)
  have hB0 : w0.heap.size ≤ w.heap.size := h.frm.size
  obtain ⟨Q, hQ⟩ : ∃ Q, Q = Did9 w0 w Z p dp q m room (mm + 3) := ⟨_, rfl⟩
  rw [← hQ]
  have GO : Hid (∀ z S' l' m', T9 w0 z (g :: Z) p dp q m room S' l' S' l' m' → Off w0 wa z (g :: Z) → m' ≤ mm + 3 → Q (.returned (.bool true)) z) := Lib.hid fun z S' l' m' ht ho hm' => by
    rw [hQ]
    exact ⟨rfl, S', l', (ht.less (fun x hx => List.mem_cons_of_mem _ hx)).more hm', (Off.here hfa).trans (ho.sub (fun z hz => List.mem_cons_of_mem _ hz))⟩
  have HT := Lib.hid hT
  have HZL : Hid (∀ z ∈ Z, z < wa.heap.size) := Lib.hid fun z hz => Nat.lt_of_lt_of_le (hZl z hz) hfa.size
  have HWA := Lib.hid hWa
  have HFA := Lib.hid hfa
  have HEA := Lib.hid hwa
  have HG := Lib.hid hg
  have HBB := Lib.hid hbb
  have HBN := Lib.hid hbn
  have HTN := Lib.hid htn
  have HLOW := Lib.hid hlow
  obtain ⟨r, hr⟩ : ∃ r, r = tk % 6 := ⟨_, rfl⟩
  have hr6 : r < 6 := by omega
  have m1 : (tk : Int) % 6 = (r : Int) := by rw [hr]; rfl
  clear h hok hZl hlow hbb hbn htn hWa hfa hT hQ hr hwa hg
  have hcase : r = 4 ∨ r = 5 ∨ (r ≠ 4 ∧ r ≠ 5) := by omega
  rcases hcase with rfl | rfl | ⟨h4, h5⟩
  · have HC := Lib.hid (t9_fence tl HT.out hl64)
    go_enter Tryz.func9, Tryz.ntmps9
    go_wp2_with fail
    rw [← HEA.out, ← HG.out]
    (with_reducible refine HC.out.mono ?_)
    rintro e w1 ⟨rfl, ht1, ho1⟩
    have k1 := (ho1.whole9 HWA.out (by simp)).cell 1
    simp at k1
    have HC2 := Lib.hid (t9_rfence tl ht1 hl64 (by omega))
    have HO1 := Lib.hid ho1
    obtain ⟨en, hen⟩ : ∃ en, en = oE l room (fenO S tl) (recW 2 tl) := ⟨_, rfl⟩
    obtain ⟨nn, hnn⟩ : ∃ nn, nn = fenN S l room tl := ⟨_, rfl⟩
    rw [← hen, ← hnn] at HC2 ⊢
    clear ht1 ho1 HC hen hnn
    have b1 : ((nn : Int) == (nn : Int)) = true := by simp
    have b2 : ((en : Int) == (en : Int)) = true := by simp
    go_wp2_with fail
    (with_reducible refine HC2.out.mono ?_)
    rintro e w2 ⟨rfl, ht2, ho2⟩
    have HE := Lib.hid (GO.out w2 _ _ _ ht2 (HO1.out.trans ho2) (by omega))
    clear ht2 ho2 HC2
    go_wp2
    exact HE.out
  · obtain ⟨en, hen⟩ : ∃ en, en = oE l room (dropO S tl) (recW 3 tl) := ⟨_, rfl⟩
    have HC := Lib.hid (fun (z : World) (hz : Frm [] wa z) => t9_drop tl (HT.out.same hz) hl64)
    have HC2 := Lib.hid (fun (z : World) (hz : T9 w0 z (g :: Z) p dp q m room (oS S l room (dropO S tl) (recW 3 tl) tl dropL) (oL l room (dropO S tl) (recW 3 tl)) S l mm) => t9_rdrop tl hz hl64 (by omega))
    rw [← hen] at HC HC2
    clear hen
    have b2 : ((en : Int) == (en : Int)) = true := by simp
    have K1 : ∀ y, Off w0 wa y (g :: Z) → y.cell? ⟨g, 1, none⟩ = some (.int .u64 (tl : Nat)) := fun y hy => (hy.whole9 HWA.out (by simp)).cell 1
    go_enter Tryz.func9, Tryz.ntmps9
    go_wp2_with fail
    rw [← HEA.out, ← HG.out]
    refine wp_region_held_drew (S := fun y => Off w0 wa y (g :: Z)) (by kernel_rfl) (Off.here (Frm.refl _ _).drew) (fun hHeld => ?_)
    refine wpAnyH_take (i := 0) (oi := ⟨some 43, _, _, _, _, _⟩) (v := ?_) rfl (by kernel_rfl) (by kernel_rfl) (by kernel_rfl) (fun _ _ _ h => h) (Or.inl ⟨by rfl, ?_⟩) (by assumption) ?_
    rotate_left 1
    · (intro w hSw; (try dsimp only at hSw); go_simp; all_goals with_reducible rfl)
    try simp only [Act.put, List.setIfInBounds_toArray, List.set_cons_zero, List.set_cons_succ]
    refine wpAnyH_take (i := 1) (oi := ⟨some 44, _, _, _, _, _⟩) (v := ?_) rfl (by kernel_rfl) (by kernel_rfl) (by kernel_rfl) (fun _ _ _ h => h) (Or.inl ⟨by rfl, ?_⟩) (by assumption) ?_
    rotate_left 1
    · (intro w hSw; (try dsimp only at hSw); go_simp; all_goals with_reducible rfl)
    try simp only [Act.put, List.setIfInBounds_toArray, List.set_cons_zero, List.set_cons_succ]
    refine wpAnyH_take (i := 2) (oi := ⟨some 45, _, _, _, _, _⟩) (v := ?_) rfl (by kernel_rfl) (by kernel_rfl) (by kernel_rfl) (fun _ _ _ h => h) (Or.inl ⟨by rfl, ?_⟩) (by assumption) ?_
    rotate_left 1
    · (intro w hSw; (try dsimp only at hSw); go_simp; all_goals with_reducible rfl)
    try simp only [Act.put, List.setIfInBounds_toArray, List.set_cons_zero, List.set_cons_succ]
    refine wpAnyH_take (i := 4) (oi := ⟨some 47, _, _, _, _, _⟩) (v := ?_) rfl (by kernel_rfl) (by kernel_rfl) (by kernel_rfl) (fun _ _ _ h => h) (Or.inl ⟨by rfl, ?_⟩) (by assumption) ?_
    rotate_left 1
    · (intro w hSw; (try dsimp only at hSw); go_simp; all_goals with_reducible rfl)
    try simp only [Act.put, List.setIfInBounds_toArray, List.set_cons_zero, List.set_cons_succ]
    refine wpAnyH_take (i := 5) (oi := ⟨some 48, _, _, _, _, _⟩) (v := ?_) rfl (by kernel_rfl) (by kernel_rfl) (by kernel_rfl) (fun _ _ _ h => h) (Or.inl ⟨by rfl, ?_⟩) (by assumption) ?_
    rotate_left 1
    · (intro w hSw; (try dsimp only at hSw); go_simp; all_goals with_reducible rfl)
    try simp only [Act.put, List.setIfInBounds_toArray, List.set_cons_zero, List.set_cons_succ]
    refine wpAnyH_take (i := 6) (oi := ⟨some 49, _, _, _, _, _⟩) (v := ?_) rfl (by kernel_rfl) (by kernel_rfl) (by kernel_rfl) (fun _ _ _ h => h) (Or.inl ⟨by rfl, ?_⟩) (by assumption) ?_
    rotate_left 1
    · (intro w hSw; (try dsimp only at hSw); go_simp; all_goals with_reducible rfl)
    try simp only [Act.put, List.setIfInBounds_toArray, List.set_cons_zero, List.set_cons_succ]
    refine wpAnyH_ready (rs := [3]) (by kernel_rfl) (by simp) ?_
    refine AllReadyH.cons (o := ⟨some 46, _, _, _, _, _⟩) rfl (fun K hK => ?_) AllReadyH.nil
    go_simp
    (go_at_call 23; (refine (HC.out _ (Frm.refl [] _).drew).mono ?_); rintro e w1 ⟨rfl, ht1, ho1⟩; have S1 : Off w0 wa w1 (g :: Z) := Off.trans (Off.here (Frm.refl [] _).drew) ho1)
    go_wp2_with fail
    refine hK.out _ _ (by assumption) (fun hHeld => ?_)
    clear hK K
    try simp only [Act.put, List.setIfInBounds_toArray, List.set_cons_zero, List.set_cons_succ]
    refine wpAnyH_ready (rs := [7]) (by kernel_rfl) (by simp) ?_
    refine AllReadyH.cons (o := ⟨some 50, _, _, _, _, _⟩) rfl (fun K hK => ?_) AllReadyH.nil
    go_simp
    (go_at_call 14; (refine (HC2.out _ ht1).mono ?_); rintro e w2 ⟨rfl, ht2, ho2⟩; have S2 : Off w0 wa w2 (g :: Z) := S1.trans ho2)
    go_wp2_with fail
    refine hK.out _ _ (by assumption) (fun hHeld => ?_)
    clear hK K
    try simp only [Act.put, List.setIfInBounds_toArray, List.set_cons_zero, List.set_cons_succ]
    refine wpAnyH_take (i := 8) (oi := ⟨some 51, _, _, _, _, _⟩) (v := ?_) rfl (by kernel_rfl) (by kernel_rfl) (by kernel_rfl) (fun _ _ _ h => h) (Or.inl ⟨by rfl, ?_⟩) (by assumption) ?_
    rotate_left 1
    · (intro w hSw; (try dsimp only at hSw); go_simp; all_goals with_reducible rfl)
    try simp only [Act.put, List.setIfInBounds_toArray, List.set_cons_zero, List.set_cons_succ]
    refine wpAnyH_take (i := 9) (oi := ⟨some 6, _, _, _, _, _⟩) (v := ?_) rfl (by kernel_rfl) (by kernel_rfl) (by kernel_rfl) (fun _ _ _ h => h) (Or.inl ⟨by rfl, ?_⟩) (by assumption) ?_
    rotate_left 1
    · (intro w hSw; (try dsimp only at hSw); go_simp; all_goals with_reducible rfl)
    try simp only [Act.put, List.setIfInBounds_toArray, List.set_cons_zero, List.set_cons_succ]
    refine wpAnyH_done (by kernel_rfl) ?_ _
    have HE := Lib.hid (GO.out w2 _ _ _ ht2 S2 (by omega))
    clear K1 ht1 ht2 ho1 ho2 S1 S2
    go_wp2
    exact HE.out
  · have n4 : ((tk : Int) % 6 == 4) = false := by rw [m1, beq_eq_false_iff_ne]; omega
    have n5 : ((tk : Int) % 6 == 5) = false := by rw [m1, beq_eq_false_iff_ne]; omega
    clear m1
    obtain ⟨en, hen⟩ : ∃ en, en = oE l room (addO S tl te ts td tm) (recA tl te ts td) := ⟨_, rfl⟩
    obtain ⟨i1, uinf, uz0, uz1, uz2⟩ := info_parts Tryz.info5
    have UI := Lib.hid uinf
    have hg2 := HWA.out.cell 2
    have hg6 := HWA.out.cell 6
    have hg1 := HWA.out.cell 1
    have hg4 := HWA.out.cell 4
    have hg5 := HWA.out.cell 5
    simp at hg1 hg2 hg4 hg5 hg6
    have hgl : g < wa.heap.size := HWA.out.lt
    obtain ⟨wA, hwA⟩ : ∃ wA, wA = (wa.alloc (.cells #[] 5)).alloc (.cells #[.int .u64 0, .slice none 0 0] 57) := ⟨_, rfl⟩
    have f01 : Frm [] wa (wa.alloc (.cells #[] 5)) := (Frm.refl [] wa).alloc _
    have f02 : Frm [] (wa.alloc (.cells #[] 5)) wA := by rw [hwA]; exact (Frm.refl _ _).alloc _
    have f00 : Frm [] wa wA.drew := (f01.trans f02 (U := []) (by simp) (by simp)).drew
    have x2 : wA.cell? ⟨g, 2, none⟩ = some (.int .u64 (te : Nat)) := (f00.cell (p := ⟨g, 2, none⟩) hgl (by simp)).trans hg2
    have x6 : wA.cell? ⟨g, 6, none⟩ = some (.slice ta tn tc) := (f00.cell (p := ⟨g, 6, none⟩) hgl (by simp)).trans hg6
    have LIT : Hid (wA.drew.ownsRow wa.heap.size 5 1 (.slice (some ⟨wa.heap.size, 0, none⟩) 0 0) 0 []) := Lib.hid (by
      have h1 : (wa.alloc (.cells #[] 5)).ownsRow wa.heap.size 5 1 (.slice (some ⟨wa.heap.size, 0, none⟩) 0 0) 0 [] := World.ownsRow_lit wa #[] 0 (Nat.le_refl _) (by unfold maxLen; omega) rfl
      exact (f02.drew).own h1 (by simp))
    obtain ⟨xb0, hxb0⟩ : ∃ xb0, xb0 = wa.heap.size + 1 := ⟨_, rfl⟩
    have WX : Hid (Whole wA.drew xb0 57 #[.int .u64 0, .slice none 0 0]) := Lib.hid (by
      have h1 := Whole.made (wa.alloc (.cells #[] 5)) 57 #[.int .u64 0, .slice none 0 0]
      rw [← hwA, show (wa.alloc (.cells #[] 5)).heap.size = xb0 by rw [hxb0]; simp] at h1
      exact (Frm.refl [] wA).drew.whole h1 (by simp))
    have BY : Hid (Bytes wA.drew ta td) := Lib.hid (f00.bytes' (HFA.out.bytes' HBB.out (by simp)) (by simp))
    have SZ : Hid (wa.heap.size ≤ wA.drew.heap.size) := Lib.hid f00.size
    have LB : Hid (∀ y, (Value.slice (some ⟨wa.heap.size, 0, none⟩) 0 0).ownBlock = some y → y = wa.heap.size) := Lib.hid fun y hy => by
      simp [Value.ownBlock] at hy; omega
    have f0d : Frm [] wa (wa.alloc (.cells #[] 5)).drew := f01.drew
    have y2 : (wa.alloc (.cells #[] 5)).cell? ⟨g, 2, none⟩ = some (.int .u64 (te : Nat)) := (f01.cell (p := ⟨g, 2, none⟩) hgl (by simp)).trans hg2
    have y6 : (wa.alloc (.cells #[] 5)).cell? ⟨g, 6, none⟩ = some (.slice ta tn tc) := (f01.cell (p := ⟨g, 6, none⟩) hgl (by simp)).trans hg6
    have LIT0 : Hid ((wa.alloc (.cells #[] 5)).drew.ownsRow wa.heap.size 5 1 (.slice (some ⟨wa.heap.size, 0, none⟩) 0 0) 0 []) := Lib.hid (by
      have h1 : (wa.alloc (.cells #[] 5)).ownsRow wa.heap.size 5 1 (.slice (some ⟨wa.heap.size, 0, none⟩) 0 0) 0 [] := World.ownsRow_lit wa #[] 0 (Nat.le_refl _) (by unfold maxLen; omega) rfl
      exact h1)
    have BY0 : Hid (Bytes (wa.alloc (.cells #[] 5)).drew ta td) := Lib.hid (f0d.bytes' (HFA.out.bytes' HBB.out (by simp)) (by simp))
    have SZ0 : Hid (wa.heap.size ≤ (wa.alloc (.cells #[] 5)).drew.heap.size) := Lib.hid f0d.size
    have F0D := Lib.hid f0d
    obtain ⟨wC, hwC⟩ : ∃ wC, wC = (wa.alloc (.cells #[.int .u64 0, .slice none 0 0] 57)).alloc (.cells #[] 5) := ⟨_, rfl⟩
    have c01 : Frm [] wa (wa.alloc (.cells #[.int .u64 0, .slice none 0 0] 57)) := (Frm.refl [] wa).alloc _
    have c02 : Frm [] (wa.alloc (.cells #[.int .u64 0, .slice none 0 0] 57)) wC := by rw [hwC]; exact (Frm.refl _ _).alloc _
    have c00 : Frm [] wa wC.drew := (c01.trans c02 (U := []) (by simp) (by simp)).drew
    have v2 : wC.cell? ⟨g, 2, none⟩ = some (.int .u64 (te : Nat)) := (c00.cell (p := ⟨g, 2, none⟩) hgl (by simp)).trans hg2
    have v6 : wC.cell? ⟨g, 6, none⟩ = some (.slice ta tn tc) := (c00.cell (p := ⟨g, 6, none⟩) hgl (by simp)).trans hg6
    have u2 : (wa.alloc (.cells #[.int .u64 0, .slice none 0 0] 57)).cell? ⟨g, 2, none⟩ = some (.int .u64 (te : Nat)) := (c01.cell (p := ⟨g, 2, none⟩) hgl (by simp)).trans hg2
    have u6 : (wa.alloc (.cells #[.int .u64 0, .slice none 0 0] 57)).cell? ⟨g, 6, none⟩ = some (.slice ta tn tc) := (c01.cell (p := ⟨g, 6, none⟩) hgl (by simp)).trans hg6
    have LITC : Hid (wC.drew.ownsRow wa.heap.size 5 1 (.slice (some ⟨wa.heap.size + 1, 0, none⟩) 0 0) 0 []) := Lib.hid (by
      have h1 : ((wa.alloc (.cells #[.int .u64 0, .slice none 0 0] 57)).alloc (.cells #[] 5)).ownsRow wa.heap.size 5 1 (.slice (some ⟨(wa.alloc (.cells #[.int .u64 0, .slice none 0 0] 57)).heap.size, 0, none⟩) 0 0) 0 [] := World.ownsRow_lit (wa.alloc (.cells #[.int .u64 0, .slice none 0 0] 57)) #[] 0 c01.size (by unfold maxLen; omega) rfl
      rw [← hwC, show (wa.alloc (.cells #[.int .u64 0, .slice none 0 0] 57)).heap.size = wa.heap.size + 1 by simp] at h1
      exact h1)
    have WXC : Hid (Whole wC.drew wa.heap.size 57 #[.int .u64 0, .slice none 0 0]) := Lib.hid (c02.drew.whole (Whole.made wa 57 #[.int .u64 0, .slice none 0 0]) (by simp))
    have BYC : Hid (Bytes wC.drew ta td) := Lib.hid (c00.bytes' (HFA.out.bytes' HBB.out (by simp)) (by simp))
    have SZC : Hid (wa.heap.size ≤ wC.drew.heap.size) := Lib.hid c00.size
    have LBC : Hid (∀ y, (Value.slice (some ⟨wa.heap.size + 1, 0, none⟩) 0 0).ownBlock = some y → y = wa.heap.size + 1) := Lib.hid fun y hy => by
      simp [Value.ownBlock] at hy; omega
    have C00 := Lib.hid c00
    have HWC := Lib.hid hwC
    have HWA2 := Lib.hid hwA
    have HXB := Lib.hid hxb0
    have F00 := Lib.hid f00
    have H8 := Lib.hid HBB.out.1
    have hgne : ¬ g = wa.heap.size := by omega
    clear f00 f01 f02 f0d uinf hwA hxb0 c00 c01 c02 hwC
    go_enter Tryz.func9, Tryz.ntmps9
    go_wp2_with fail
    rw [← HEA.out, ← HG.out]
    try rw [← HWA2.out]
    try rw [← HXB.out]
    go_cut [11] (fun v wx => ∃ xb av cv, v = .pointer (some ⟨xb, 0, none⟩) ∧ Hid (OneX wa wx xb av cv te tn td))
    case first =>
      go_region_law (first | (rw [← HWC.out]; refine step_app rfl (.tmp 54) (.tmp 56) 35 rfl wa.heap.size 5 i1 Tryz.underlying35 UI.out uz0 uz1 uz2 _ 0 [] rfl LITC.out _ _ _ td rfl BYC.out HTN.out HBN.out (by omega) SZC.out ?_; intro av cv w2 happ; have hf1 : Frm [wa.heap.size + 1] wC.drew w2 := (Frm.refl _ _).grown happ.grown (fun y hy => .inl (by rw [LBC.out y hy]; simp)); have hf2 : Frm [] wa w2 := C00.out.trans hf1 (by simp) (fun x hx => .inr (by simp at hx; omega)); have hx2 := hf1.whole WXC.out (by simp); have ho2 : w2.ownsRow wa.heap.size 5 1 (.slice av tn cv) tn (td.map u8v) := (by have := happ.own; simpa using this); have d6 := (hf2.cell (p := ⟨g, 2, none⟩) hgl (by simp)).trans hg2; have x0 := hx2.cell 0; have x1 := hx2.cell 1; have y0 := hx2.free 0; have y1 := hx2.free 1; simp at x0 x1; have HON := Lib.hid (onex_made (k := te) hx2 hf2 (Nat.le_refl _) ho2); clear happ hf1 hf2 hx2 ho2) | (rw [← HWA2.out]; refine step_app rfl (.tmp 54) (.tmp 56) 35 rfl wa.heap.size 5 i1 Tryz.underlying35 UI.out uz0 uz1 uz2 _ 0 [] rfl LIT.out _ _ _ td rfl BY.out HTN.out HBN.out (by omega) SZ.out ?_; intro av cv w2 happ; have hf1 : Frm [wa.heap.size] wA.drew w2 := (Frm.refl _ _).grown happ.grown (fun y hy => .inl (by rw [LB.out y hy]; simp)); have hf2 : Frm [] wa w2 := F00.out.trans hf1 (by simp) (fun x hx => .inr (by simp at hx; omega)); have hx2 := hf1.whole WX.out (by have := HXB.out; simp; omega); have ho2 : w2.ownsRow wa.heap.size 5 1 (.slice av tn cv) tn (td.map u8v) := (by have := happ.own; simpa using this); have d6 := (hf2.cell (p := ⟨g, 2, none⟩) hgl (by simp)).trans hg2; have x0 := hx2.cell 0; have x1 := hx2.cell 1; have y0 := hx2.free 0; have y1 := hx2.free 1; simp at x0 x1; rw [HXB.out] at x0 x1 y0 y1; have HON := Lib.hid (onex_made (k := te) hx2 hf2 (by have := HXB.out; omega) ho2); rw [HXB.out] at HON; clear happ hf1 hf2 hx2 ho2) | (refine step_app rfl (.tmp 54) (.tmp 56) 35 rfl wa.heap.size 5 i1 Tryz.underlying35 UI.out uz0 uz1 uz2 _ 0 [] rfl LIT0.out _ _ _ td rfl BY0.out HTN.out HBN.out (by omega) SZ0.out ?_; intro av cv w2 happ; have hf2 : Frm [] wa w2 := F0D.out.grown happ.grown (fun y hy => .inr (by have := LB.out y hy; omega)); have ho2 : w2.ownsRow wa.heap.size 5 1 (.slice av tn cv) tn (td.map u8v) := (by have := happ.own; simpa using this); have d6 := (hf2.cell (p := ⟨g, 2, none⟩) hgl (by simp)).trans hg2; have d7 : (w2.alloc (.cells #[.int .u64 0, .slice none 0 0] 57)).cell? ⟨g, 2, none⟩ = some (.int .u64 (te : Nat)) := (((Frm.refl [] w2).alloc (.cells #[.int .u64 0, .slice none 0 0] 57)).cell (p := ⟨g, 2, none⟩) (Nat.lt_of_lt_of_le hgl hf2.size) (by simp)).trans d6; have HON := Lib.hid (onex_made2 (k := te) hf2 ho2); clear happ hf2 ho2))
      all_goals
        go_wp2_with fail
        go_meet
        case rel => exact ⟨_, _, _, rfl, HON⟩
    case rest =>
      obtain ⟨xb, av, cv, rfl, HON⟩ := hcut
      clear LITC WXC BYC SZC LBC C00 HWC v2 v6 u2 u6
      clear LIT BY SZ LB F00 x2 x6 UI uz0 uz1 uz2 hgne WX HWA2 HXB LIT0 BY0 SZ0 F0D y2 y6
      have hon := HON.out
      have hrow := bytes_of_own hon.row H8.out
      have hTx := HT.out.here (Z' := xb :: (blk av ++ g :: Z)) hon.frm (fun x hx => by
        simp only [List.mem_cons, List.mem_append] at hx
        rcases hx with rfl | hx | hx
        · exact .inr ⟨hon.new, hon.box.lt⟩
        · exact .inr (hon.blt x hx)
        · exact .inl (by simpa using hx))
      have HAD := t9_add tl te ts av tn cv td tm hTx hl64 he64 hs64 hrow.2.1 HTN.out hrow.2.2
      rw [← hen] at HAD
      have HAD := Lib.hid HAD
      have q0 := hon.box.cell 0
      have q1 := hon.box.cell 1
      simp at q0 q1
      have hWx := hon.frm.whole HWA.out (by simp)
      have k1 := hWx.cell 1
      have k4 := hWx.cell 4
      have k5 := hWx.cell 5
      simp at k1 k4 k5
      have HWX := Lib.hid hWx
      have HB64 : Hid (w0.heap.size ≤ wa.heap.size) := Lib.hid (by have := HFA.out.size; omega)
      clear hon hrow hTx hWx hg1 hg2 hg4 hg5 hg6 hgl
      go_wp2_with fail
      (with_reducible refine HAD.out.mono ?_)
      rintro e w3 ⟨rfl, ht3, ho3⟩
      have HX3 := Lib.hid (ho3.whole9 HON.out.box (by simp))
      have HG3 := Lib.hid (ho3.whole9 HWX.out (by simp))
      have HR3 := Lib.hid (ho3.own9 HON.out.row (fun x hx => by simp [hx]))
      have HT3 := Lib.hid ht3
      have HO3 : Hid (Off w0 wa w3 (g :: Z)) := Lib.hid ((Off.here HON.out.frm).trans (ho3.sub (fun z hz => by simp at hz; simp [hz])))
      have r1 := HX3.out.cell 1
      simp at r1
      clear ht3 ho3 HAD q0 q1 k1 k4 k5
      go_wp2_with fail
      go_loopw [71] (fun i wr => SpRel w3 wa.heap.size 5 av tn cv i wr) (fun i _ => tn - (intOf i).toNat)
      case atStart => exact Spoilt.start HR3.out H8.out
      case round =>
        obtain ⟨j, cc, hj, rfl, hsp⟩ := hrel
        have hxr := hsp.frm.whole HX3.out HON.out.off
        have r2 := hxr.cell 1
        simp at r2
        by_cases hlt : j < tn
        · obtain ⟨b, d, hab, hd8, s0, s1, s2, hnext⟩ := hsp.at hlt
          have hbits := all_bits d hd8
          subst hab
          have HNX := Lib.hid hnext
          clear hsp hxr hnext r1
          go_wp2
          go_roundw
          case rel => exact ⟨j + 1, _, hlt, by go_num, HNX.out⟩
          case measure => simp [intOf]; omega
        · have hgb : g ∉ blk av := fun hm' => by have h1 := (HON.out.blt g hm').1; have h2 := HWA.out.lt; omega
          have hgr := hsp.frm.whole HG3.out hgb
          have hTr := HT3.out.turn (T := blk av) (Z' := g :: Z) hsp.frm (fun x hx => ⟨by simp [hx], by have h1 := (HON.out.blt x hx).1; have h2 := HB64.out; omega⟩) (fun x hx => .inl (by simp only [List.mem_cons, List.mem_append] at hx ⊢; exact .inr (.inr hx)))
          have hOr : Off w0 wa wr (g :: Z) := HO3.out.trans ⟨blk av, hsp.frm, fun y hy => ⟨fun hm' => ?_, by have h1 := (HON.out.blt y hy).1; have h2 := HB64.out; omega⟩⟩
          · have HRA := t9_radd tl te ts ta tn tc td tm hTr hl64 he64 hs64 (by omega) (Off.bytes9 (HFA.out.bytes' HBB.out (by simp)) hOr HLOW.out) HTN.out HBN.out HLOW.out
            rw [← hen] at HRA
            have HRA := Lib.hid HRA
            have k1 := hgr.cell 1
            have k2 := hgr.cell 2
            have k4 := hgr.cell 4
            have k5 := hgr.cell 5
            have k6 := hgr.cell 6
            simp at k1 k2 k4 k5 k6
            have HOR := Lib.hid hOr
            have b2 : ((en : Int) == (en : Int)) = true := by simp
            clear hsp hxr hgr hTr hOr hgb r1
            go_wp2_with fail
            (with_reducible refine HRA.out.mono ?_)
            rintro e w5 ⟨rfl, ht5, ho5⟩
            have HE := Lib.hid (GO.out w5 _ _ _ ht5 (HOR.out.trans ho5) (by omega))
            clear ht5 ho5 HRA
            go_wp2
            exact HE.out
          · have h1 := (HON.out.blt y hy).1
            rcases List.mem_cons.1 hm' with rfl | hm'
            · have h2 := HWA.out.lt; omega
            · have h2 := HZL.out y hm'; omega
end
end Go.Proofs.YtamcandcfainfaaGreat
