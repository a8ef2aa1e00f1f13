/- Contract of Add of the document's writer. Written by wip/mk-dwadd.py. -/
import Derived.Test.YtecfoomjpjcldaaDw
import Derived.Deep.Cut
import Derived.Deep.CutRange
namespace Go.Proofs.Ytecfoomjpjcldaa
open Go.RowKit
set_option maxRecDepth 100000
theorem infoBytesL : (Try.prog.info? 38).map (fun i => (i.zero, i.size, i.bytes)) = some (some (.slice none 0 0), 1, 24) := by kernel_rfl
theorem valsOne (w : World) (u : Value) (t : TypeId) (m : Nat × Nat) : ValsAt (w.alloc (.cells #[u] t m)) (some ⟨w.heap.size, 0, none⟩) [u] := by
  refine .inr ⟨_, _, rfl, fun i x hx => ?_⟩
  rw [cell_of_row _ w.heap.size _ #[u] t m (heap_alloc_new w _)]
  match i, hx with
  | 0, hx => simpa using hx
  | i + 1, hx => simp at hx
/-- An error's number. -/
def dwAddE (D : List (List Nat)) (su : Nat) (cl : Bool) (n : Nat) : Nat := if cl = true then 24 else if 256 < n then 3 else if su + 64 ≤ D.length then 14 else 0
def DwAddEnd (w : World) (B pm : Nat) (F G : List Nat) (P W A : Nat) (D : List (List Nat)) (H : Nat → Nat → Bool) (su : Nat) (cl : Bool) (d : List Nat) (ex : Ending) (w' : World) : Prop :=
  (dwAddE D su cl d.length ≠ 0 ∧ ex = .returned (.tuple #[.int .u64 0, .int .i64 (dwAddE D su cl d.length : Nat)]) ∧ Frm [] w w') ∨
  (dwAddE D su cl d.length = 0 ∧ ex = .returned (.tuple #[.int .u64 (D.length : Nat), .int .i64 0]) ∧ ∃ G', Frm (pm :: G) w w' ∧ (∀ g ∈ G', g ∈ G ∨ w.heap.size ≤ g) ∧ Dw w' B pm F G' P W A (D ++ [d]) (hasNew H D.length) su cl)
set_option maxHeartbeats 16000000 in
theorem dwadd_any {w : World} {B pm : Nat} {F G : List Nat} {P W A : Nat} {D : List (List Nat)} {H : Nat → Nat → Bool} {su : Nat} {cl : Bool} (ad : Option Addr) (dn cd : Nat) (d : List Nat) (m : Dw w B pm F G P W A D H su cl) (hB : B ≤ w.heap.size) (hl : D.length ≤ 100000) (hF : ∀ x ∈ F, x < w.heap.size) (hb : Bytes w ad d) (hdn : dn = d.length) (hnil : ad = none → cd = 0) :
    Calls Try.prog 35 #[.pointer (some ⟨pm, 0, none⟩), .slice ad dn cd] w (DwAddEnd w B pm F G P W A D H su cl d) := by
  obtain ⟨i0, hinf, hz0, hz1, hz2⟩ := info_parts infoBytesL
  obtain ⟨j0, hjnf, hy0, hy1, hy2⟩ := info_parts infoBools
  obtain ⟨i1, uinf, uz0, uz1, uz2⟩ := info_parts Try.info5
  obtain ⟨Q, hQ⟩ : ∃ Q, Q = DwAddEnd w B pm F G P W A D H su cl d := ⟨_, rfl⟩
  rw [← hQ]
  have BAD : Hid (∀ k : Nat, k ≠ 0 → dwAddE D su cl dn = k → ∀ z, Frm [] w z → Q (.returned (.tuple #[.int .u64 0, .int .i64 (k : Nat)])) z) := Lib.hid fun k hk he z hz => by
    rw [hQ]
    rw [hdn] at he
    exact .inl ⟨by rw [he]; exact hk, by rw [he], hz⟩
  have hsu := m.su_le
  obtain ⟨a, c, b, e, R, vs, hv, hG, hR, hL, hH⟩ := m.box
  obtain ⟨n, hn⟩ : ∃ n, n = D.length := ⟨_, rfl⟩
  have c0 : w.cell? ⟨pm, 0, none⟩ = some (.int .i64 (P : Nat)) := hv.cell 0
  have c3 : w.cell? ⟨pm, 3, none⟩ = some (.slice a n c) := by rw [hn]; exact hv.cell 3
  have c4 : w.cell? ⟨pm, 4, none⟩ = some (.slice b n e) := by rw [hn]; exact hv.cell 4
  have c5 : w.cell? ⟨pm, 5, none⟩ = some (.int .i64 (su : Nat)) := hv.cell 5
  have c6 : w.cell? ⟨pm, 6, none⟩ = some (.bool cl) := hv.cell 6
  cases cl with
  | true =>
    have HE := Lib.hid (BAD.out 24 (by decide) (by simp [dwAddE]))
    clear hQ hb hdn hnil hF m hv hG hR hL hH hn hinf hjnf uinf BAD
    go_enter Try.func35, Try.ntmps35
    go_wp2
    exact HE.out _ (by first | exact Frm.refl _ _ | exact (Frm.refl _ _).drew)
  | false =>
  by_cases hb1 : 256 < dn
  · have d1 : decide ((256 : Int) < (dn : Int)) = true := decide_eq_true (by omega)
    have d2 : decide (256 < dn) = true := decide_eq_true hb1
    have HE := Lib.hid (BAD.out 3 (by decide) (by simp [dwAddE, hb1]))
    clear hQ hb hdn hnil hF m hv hG hR hL hH hn hinf hjnf uinf BAD
    go_enter Try.func35, Try.ntmps35
    go_wp2
    exact HE.out _ (by first | exact Frm.refl _ _ | exact (Frm.refl _ _).drew)
  have d1 : decide ((256 : Int) < (dn : Int)) = false := decide_eq_false (by omega)
  have d2 : decide (256 < dn) = false := decide_eq_false hb1
  obtain ⟨df, hdf⟩ : ∃ df : Nat, (n : Int) - (su : Int) = (df : Int) := ⟨n - su, by omega⟩
  have hws : IntKind.i64.wrap ((n : Int) - (su : Int)) = (df : Int) := by rw [hdf]; exact IntWalk.i64_in _ (by omega)
  by_cases hb2 : su + 64 ≤ n
  · have d3 : decide ((64 : Int) ≤ (df : Int)) = true := decide_eq_true (by omega)
    have d4 : decide (64 ≤ df) = true := decide_eq_true (by omega)
    have HE := Lib.hid (BAD.out 14 (by decide) (by rw [hn] at hb2; simp [dwAddE, hb1, hb2]))
    clear hQ hb hdn hnil hF m hv hG hR hL hH hn hinf hjnf uinf BAD hb1 hdf hb2 hsu
    go_enter Try.func35, Try.ntmps35
    go_upto_region 5 with fail
    go_region
    go_wp2_with fail
    exact HE.out _ (by first | exact Frm.refl _ _ | exact (Frm.refl _ _).drew)
  have d3 : decide ((64 : Int) ≤ (df : Int)) = false := decide_eq_false (by omega)
  have d4 : decide (64 ≤ df) = false := decide_eq_false (by omega)
  have HN := Lib.hid hn
  have HM := Lib.hid m
  have HLOW := Lib.hid hF
  have HBY := Lib.hid hb
  have HDN := Lib.hid hdn
  have HNILD := Lib.hid hnil
  have HV := Lib.hid hv
  have HL := Lib.hid hL
  have HH := Lib.hid hH
  have HR0 := Lib.hid hR
  have HG := Lib.hid hG
  have HINF := Lib.hid hinf
  have HJNF := Lib.hid hjnf
  have UI := Lib.hid uinf
  have hmkb := mk_bools P (by have := m.quo; omega)
  have hP7 : P ≤ 7 := m.quo.2.2.2
  have hnl : n ≤ 100000 := by omega
  have hd256 : dn ≤ 256 := by omega
  have hplt := hv.lt
  have HDE : Hid (dwAddE D su false dn = 0) := Lib.hid (by rw [hn] at hb2; simp [dwAddE, hb1, hb2])
  have HFIN : Hid (∀ z G', Frm (pm :: G) w z → (∀ g ∈ G', g ∈ G ∨ w.heap.size ≤ g) → Dw z B pm F G' P W A (D ++ [d]) (hasNew H n) su false → Q (.returned (.tuple #[.int .u64 (n : Nat), .int .i64 0])) z) := Lib.hid fun z G' h1 h2 h3 => by
    rw [hQ]
    rw [hdn] at HDE
    rw [hn] at h3 ⊢
    exact .inr ⟨HDE.out, rfl, G', h1, h2, h3⟩
  have hpa : pm ∉ blk a := fun hm => hL.away pm hm (by simp)
  have hpb : pm ∉ blk b := fun hm => hH.away pm hm (by simp)
  have HPAB := Lib.hid (show pm ∉ blk a ∧ pm ∉ blk b from ⟨hpa, hpb⟩)
  clear hQ BAD hn m hF hb hdn hnil hv hL hH hR hG hinf hjnf uinf hb1 hb2 HDE hpa hpb hdf hsu
  go_enter Try.func35, Try.ntmps35
  go_upto_region 5 with fail
  go_region
  go_upto_region 7 with fail
  obtain ⟨w0, hw0⟩ : ∃ w0, w0 = w.drew := ⟨_, rfl⟩
  have HF0 : Hid (Frm [] w w0) := Lib.hid (by rw [hw0]; exact (Frm.refl _ _).drew)
  rw [← hw0]
  clear hw0
  have N3 : ∀ z, Frm (blk a) w0 z → z.cell? ⟨pm, 3, none⟩ = some (.slice a n c) := fun z hz => (hz.cell (by have := HF0.out.size; exact Nat.lt_of_lt_of_le hplt this) HPAB.out.1).trans ((HF0.out.cell hplt (by simp)).trans c3)
  have hS0 := Frm.refl (blk a) w0
  have hfl : Frm [] w0 (w0.alloc (.cells #[] 5)).drew := ((Frm.refl _ _).alloc _).drew
  have LIT : Hid ((w0.alloc (.cells #[] 5)).drew.ownsRow w0.heap.size 5 1 (.slice (some ⟨w0.heap.size, 0, none⟩) 0 0) 0 []) := Lib.hid (World.ownsRow_lit w0 #[] 0 (Nat.le_refl _) (by unfold maxLen; omega) rfl)
  have BY : Hid (Bytes (w0.alloc (.cells #[] 5)).drew ad d) := Lib.hid ((HF0.out.trans hfl (U := []) (by simp) (by simp)).bytes' HBY.out (by simp))
  have SZ : Hid (w0.heap.size ≤ (w0.alloc (.cells #[] 5)).drew.heap.size) := Lib.hid hfl.size
  have FN : Hid (∀ av cv w2, App (w0.alloc (.cells #[] 5)).drew w2 w0.heap.size 5 (.slice (some ⟨w0.heap.size, 0, none⟩) 0 0) 0 dn [] d av cv → Frm [] w0 w2 ∧
      (w2.alloc (.cells #[.slice av dn cv] 38)).ownsRow B 38 1 (.slice a n c) n vs ∧
      ValsAt (w2.alloc (.cells #[.slice av dn cv] 38)) (some ⟨w2.heap.size, 0, none⟩) [.slice av dn cv] ∧
      B ≤ (w2.alloc (.cells #[.slice av dn cv] 38)).heap.size ∧
      ∀ a3 c3 w3, AppV (w2.alloc (.cells #[.slice av dn cv] 38)) w3 B 38 (.slice a n c) n 1 vs [.slice av dn cv] a3 c3 → Frm (blk a) w0 w3 ∧ ∃ vs', OwnL w3 B 38 (pm :: (blk b ++ (R ++ F))) a3 c3 (D ++ [d]) vs' ∧ (∀ g ∈ blk a3, g ∈ blk a ∨ w.heap.size ≤ g)) := Lib.hid fun av cv w2 happ => by
    have hf2 : Frm [] w0 w2 := hfl.grown happ.grown (fun q hq => .inr (by simp [Value.ownBlock] at hq; omega))
    have hown : w2.ownsRow w0.heap.size 5 1 (.slice av dn cv) dn (d.map u8v) := by
      have := happ.own
      rwa [Nat.zero_add, List.nil_append] at this
    have hob := bytes_of_own hown HBY.out.1
    have hfa : Frm [] w2 (w2.alloc (.cells #[.slice av dn cv] 38)) := (Frm.refl _ _).alloc _
    have hfz : Frm [] w (w2.alloc (.cells #[.slice av dn cv] 38)) := (HF0.out.trans hf2 (U := []) (by simp) (by simp)).trans hfa (U := []) (by simp) (by simp)
    have hlz := HL.out.keep hfz (F' := pm :: (blk b ++ (R ++ F))) (by simp) (fun x hx => .inl hx)
    have hz1 := hfz.size
    have hz2 := hf2.size
    have hz3 := HF0.out.size
    have hlow : ∀ x ∈ pm :: (blk b ++ (R ++ F)), x < w.heap.size := fun x hx => by
      simp only [List.mem_cons, List.mem_append] at hx
      rcases hx with rfl | h1 | h1 | h1
      · exact hplt
      · exact (HH.out.blk_lt x h1).2
      · exact (HH.out.row_lt x h1).2
      · exact HLOW.out x h1
    refine ⟨hf2, by have := hlz.own; rw [← HN.out] at this; exact this, valsOne _ _ _ _, by omega, fun a3 c3 w3 happ3 => ?_⟩
    have hsole : Ents (w2.alloc (.cells #[.slice av dn cv] 38)) (blk a ++ (pm :: (blk b ++ (R ++ F)))) [.slice av dn cv] [d] := Ents.sole (hfa.bytes' hob.2.1 (by simp)) hob.1 hob.2.2 (fun _ x hx hm => by
      have h1 := (World.ownsRow.lt hown x.block (by rw [hx]; rfl)).1
      rcases List.mem_append.1 hm with h2 | h2
      · have := (HL.out.blk_lt _ h2).2; omega
      · have := hlow _ h2; omega)
    obtain ⟨g1, g2, g3, g4⟩ := hlz.app HN.out hsole rfl (fun x hx => by have := hlow x hx; omega) happ3
    refine ⟨(hf2.trans hfa (U := []) (by simp) (by simp)).trans g2 (by simp) (fun x hx => .inl hx), _, g1, fun g hg => (g3 g hg).imp id (fun h => by omega)⟩
  clear hfl
  refine wp_region_tail (S := fun w' => Frm (blk a) w0 w') (tl := (fun j => j == 12)) (by kernel_rfl) (Frm.drew (Frm.refl _ _)) (fun hHeld => ?_)
  refine tail_take (i := 0) (oi := ⟨some 27, _, _, _, _, _⟩) (v := ?_) rfl (by kernel_rfl) (by kernel_rfl) (by kernel_rfl) (by kernel_rfl) (by kernel_rfl) (fun _ _ _ h => h) (Or.inl ⟨by rfl, ?_⟩) (by assumption) ?_
  rotate_left 1
  · (intro w hSw; (try dsimp only at hSw); go_simp; all_goals with_reducible rfl)
  try simp only [Act.put, List.setIfInBounds_toArray, List.set_cons_zero, List.set_cons_succ]
  refine tail_take (i := 1) (oi := ⟨some 28, _, _, _, _, _⟩) (v := ?_) rfl (by kernel_rfl) (by kernel_rfl) (by kernel_rfl) (by kernel_rfl) (by kernel_rfl) (fun _ _ _ h => h) (Or.inl ⟨by rfl, ?_⟩) (by assumption) ?_
  rotate_left 1
  · (intro w hSw; (try dsimp only at hSw); go_simp; all_goals with_reducible rfl)
  try simp only [Act.put, List.setIfInBounds_toArray, List.set_cons_zero, List.set_cons_succ]
  refine tail_take (i := 2) (oi := ⟨some 29, _, _, _, _, _⟩) (v := ?_) rfl (by kernel_rfl) (by kernel_rfl) (by kernel_rfl) (by kernel_rfl) (by kernel_rfl) (fun _ _ _ h => h) (Or.inl ⟨by rfl, ?_⟩) (by assumption) ?_
  rotate_left 1
  · (intro w hSw; (try dsimp only at hSw); go_simp; all_goals with_reducible rfl)
  try simp only [Act.put, List.setIfInBounds_toArray, List.set_cons_zero, List.set_cons_succ]
  refine tail_take (i := 3) (oi := ⟨some 30, _, _, _, _, _⟩) (v := ?_) rfl (by kernel_rfl) (by kernel_rfl) (by kernel_rfl) (by kernel_rfl) (by kernel_rfl) (fun _ _ _ h => h) (Or.inl ⟨by rfl, ?_⟩) (by assumption) ?_
  rotate_left 1
  · (intro w hSw; (try dsimp only at hSw); go_simp; all_goals with_reducible rfl)
  try simp only [Act.put, List.setIfInBounds_toArray, List.set_cons_zero, List.set_cons_succ]
  refine tail_take (i := 4) (oi := ⟨some 31, _, _, _, _, _⟩) (v := ?_) rfl (by kernel_rfl) (by kernel_rfl) (by kernel_rfl) (by kernel_rfl) (by kernel_rfl) (fun _ _ _ h => h) (Or.inl ⟨by rfl, ?_⟩) (by assumption) ?_
  rotate_left 1
  · (intro w hSw; (try dsimp only at hSw); go_simp; all_goals with_reducible rfl)
  try simp only [Act.put, List.setIfInBounds_toArray, List.set_cons_zero, List.set_cons_succ]
  refine tail_take (i := 6) (oi := ⟨some 33, _, _, _, _, _⟩) (v := ?_) rfl (by kernel_rfl) (by kernel_rfl) (by kernel_rfl) (by kernel_rfl) (by kernel_rfl) (fun _ _ _ h => h) (Or.inl ⟨by rfl, ?_⟩) (by assumption) ?_
  rotate_left 1
  · (intro w hSw; (try dsimp only at hSw); go_simp; all_goals with_reducible rfl)
  try simp only [Act.put, List.setIfInBounds_toArray, List.set_cons_zero, List.set_cons_succ]
  refine tail_one (i := 5) (o := ⟨some 32, _, _, _, _, _⟩) (by kernel_rfl) rfl (fun K hK => ?_)
  go_simp
  refine hK.out _ _ (fun _ => by repeat (first | assumption | apply Frm.alloc | apply Frm.drew | exact Frm.refl _ _)) (fun _ => ?_)
  clear hK K
  try simp only [Act.put, List.setIfInBounds_toArray, List.set_cons_zero, List.set_cons_succ]
  refine tail_one (i := 7) (o := ⟨some 34, _, _, _, _, _⟩) (by kernel_rfl) rfl (fun K hK => ?_)
  (refine step_app rfl (.tmp 32) (.tmp 33) 38 rfl w0.heap.size 5 i1 Try.underlying38 UI.out uz0 uz1 uz2 _ 0 [] rfl LIT.out _ _ _ d rfl BY.out HDN.out HNILD.out (by omega) SZ.out ?_; intro av cv w2 happ; simp only [Nat.zero_add]; have HON2 := Lib.hid (FN.out av cv w2 happ); have S2 : Frm (blk a) w0 w2 := HON2.out.1.weak (by simp); clear happ)
  refine hK.out _ _ (fun _ => by repeat (first | assumption | apply Frm.alloc | apply Frm.drew | exact Frm.refl _ _)) (fun _ => ?_)
  clear hK K
  try simp only [Act.put, List.setIfInBounds_toArray, List.set_cons_zero, List.set_cons_succ]
  refine tail_one (i := 8) (o := ⟨some 35, _, _, _, _, _⟩) (by kernel_rfl) rfl (fun K hK => ?_)
  go_simp
  refine hK.out _ _ (fun _ => by repeat (first | assumption | apply Frm.alloc | apply Frm.drew | exact Frm.refl _ _)) (fun _ => ?_)
  clear hK K
  try simp only [Act.put, List.setIfInBounds_toArray, List.set_cons_zero, List.set_cons_succ]
  refine tail_one (i := 9) (o := ⟨some 36, _, _, _, _, _⟩) (by kernel_rfl) rfl (fun K hK => ?_)
  (refine step_appV (by rfl) (.tmp 31) (.tmp 35) 34 rfl B 38 i0 (.slice none 0 0) 24 Try.underlying34 HINF.out hz0 rfl hz1 hz2 (by omega) (.slice a n c) n vs rfl (HON2.out.2.1) (some ⟨w2.heap.size, 0, none⟩) 1 1 [.slice av dn cv] rfl (HON2.out.2.2.1) rfl (fun u hu => by simp at hu; subst hu; rfl) (fun h => by cases h) (by omega) (HON2.out.2.2.2.1) (n + 1) rfl ?_; intro a3 c3 w3 happ3; have HREL := Lib.hid (HON2.out.2.2.2.2 a3 c3 w3 happ3); have S3 : Frm (blk a) w0 w3 := HREL.out.1; have x3 := N3 w3 S3; have z3 := ((HF0.out.trans S3 (U := blk a) (by simp) (fun x hx => .inl hx)).whole HV.out HPAB.out.1).free 3; clear happ3)
  refine hK.out _ _ (fun _ => by repeat (first | assumption | apply Frm.alloc | apply Frm.drew | exact Frm.refl _ _)) (fun _ => ?_)
  clear hK K
  try simp only [Act.put, List.setIfInBounds_toArray, List.set_cons_zero, List.set_cons_succ]
  refine tail_take (i := 10) (oi := ⟨some 37, _, _, _, _, _⟩) (v := ?_) rfl (by kernel_rfl) (by kernel_rfl) (by kernel_rfl) (by kernel_rfl) (by kernel_rfl) (fun _ _ _ h => h) (Or.inl ⟨by rfl, ?_⟩) (by assumption) ?_
  rotate_left 1
  · (intro w hSw; (try dsimp only at hSw); go_simp; all_goals with_reducible rfl)
  try simp only [Act.put, List.setIfInBounds_toArray, List.set_cons_zero, List.set_cons_succ]
  refine tail_take (i := 11) (oi := ⟨some 38, _, _, _, _, _⟩) (v := ?_) rfl (by kernel_rfl) (by kernel_rfl) (by kernel_rfl) (by kernel_rfl) (by kernel_rfl) (fun _ _ _ h => h) (Or.inl ⟨by rfl, ?_⟩) (by assumption) ?_
  rotate_left 1
  · (intro w hSw; (try dsimp only at hSw); go_simp; all_goals with_reducible rfl)
  try simp only [Act.put, List.setIfInBounds_toArray, List.set_cons_zero, List.set_cons_succ]
  refine tail_one (i := 12) (o := ⟨none, _, _, _, _, _⟩) (by kernel_rfl) rfl (fun K hK => ?_)
  go_simp
  refine hK.out _ _ (fun h => absurd h (by decide)) (fun _ => ?_)
  clear hK K
  try simp only [Act.put, List.setIfInBounds_toArray, List.set_cons_zero, List.set_cons_succ]
  refine tail_done (by kernel_rfl) ?_ _
  clear N3 LIT BY SZ FN x3 z3
  obtain ⟨w4, hw4⟩ : ∃ w4, w4 = w3.setCell ⟨pm, 3, none⟩ (.slice a3 (n + 1) c3) := ⟨_, rfl⟩
  have hf34 : Frm [pm] w3 w4 := by rw [hw4]; exact (Frm.refl _ _).setCell (.inl (by simp)) _
  obtain ⟨hf03, vs', hL3, hG3⟩ := HREL.out
  have hw03 : Frm (blk a) w w3 := HF0.out.trans hf03 (by simp) (fun x hx => .inl hx)
  have HW4 : Hid (Whole w4 pm 37 #[.int .i64 (P : Nat), .int .i64 (W : Nat), .int .i64 (A : Nat), .slice a3 (n + 1) c3, .slice b n e, .int .i64 (su : Nat), .bool false]) := Lib.hid (by
    have h1 := hw03.whole HV.out HPAB.out.1
    have h2 := h1.put 3 (.slice a3 (n + 1) c3)
    rw [hw4]
    simpa [dwC, HN.out] using h2)
  have HL4 : Hid (OwnL w4 B 38 (pm :: (blk b ++ (R ++ F))) a3 c3 (D ++ [d]) vs') := Lib.hid (hL3.keep hf34 (fun x hx => .inl (by simp at hx; simp [hx])) (fun x hx => .inl hx))
  have HH4 : Hid (HR w4 B (pm :: (blk a3 ++ F)) b e P R H) := Lib.hid (by
    have h1 : HR w3 B (pm :: (blk a3 ++ F)) b e P R H := HH.out.keep hw03 (fun x hx => .inl (by simp [hx])) (fun x hx => by
      simp only [List.mem_cons, List.mem_append] at hx ⊢
      rcases hx with h1 | h1 | h1
      · exact .inl (.inl h1)
      · rcases hG3 x h1 with h2 | h2
        · exact .inl (.inr (.inl h2))
        · exact .inr h2
      · exact .inl (.inr (.inr h1)))
    exact h1.keep hf34 (fun x hx => .inl (by simp at hx; simp [hx])) (fun x hx => .inl hx))
  have HF4 : Hid (Frm (pm :: blk a) w w4) := Lib.hid (hw03.trans hf34 (fun x hx => by simp [hx]) (fun x hx => .inl (by simp at hx; simp [hx])))
  have HG3 := Lib.hid hG3
  have hplt4 : pm < w4.heap.size := HW4.out.lt
  have d0 : w4.cell? ⟨pm, 0, none⟩ = some (.int .i64 (P : Nat)) := HW4.out.cell 0
  have d4 : w4.cell? ⟨pm, 4, none⟩ = some (.slice b n e) := HW4.out.cell 4
  have HM8 : Hid ((((w4.alloc (.cells (rowB (List.replicate P false)) 4)).alloc (.cells #[.slice (some ⟨w4.heap.size, 0, none⟩) P P] 48)).drew).ownsRow B 48 1 (.slice b n e) n (hvs P R) ∧
      ValsAt (((w4.alloc (.cells (rowB (List.replicate P false)) 4)).alloc (.cells #[.slice (some ⟨w4.heap.size, 0, none⟩) P P] 48)).drew) (some ⟨w4.heap.size + 1, 0, none⟩) [.slice (some ⟨w4.heap.size, 0, none⟩) P P] ∧
      B ≤ (((w4.alloc (.cells (rowB (List.replicate P false)) 4)).alloc (.cells #[.slice (some ⟨w4.heap.size, 0, none⟩) P P] 48)).drew).heap.size ∧
      ∀ b3 e3 w6, AppV (((w4.alloc (.cells (rowB (List.replicate P false)) 4)).alloc (.cells #[.slice (some ⟨w4.heap.size, 0, none⟩) P P] 48)).drew) w6 B 48 (.slice b n e) n 1 (hvs P R) [.slice (some ⟨w4.heap.size, 0, none⟩) P P] b3 e3 → Frm (blk b) w4 w6 ∧
        HR w6 B (pm :: (blk a3 ++ F)) b3 e3 P (R ++ [w4.heap.size]) (hasNew H n) ∧ (∀ g ∈ blk b3, g ∈ blk b ∨ w4.heap.size ≤ g)) := Lib.hid (by
    have hs1 : (w4.alloc (.cells (rowB (List.replicate P false)) 4)).heap.size = w4.heap.size + 1 := by simp
    have hz : Frm [] w4 (((w4.alloc (.cells (rowB (List.replicate P false)) 4)).alloc (.cells #[.slice (some ⟨w4.heap.size, 0, none⟩) P P] 48)).drew) := (((Frm.refl _ _).alloc _).alloc _).drew
    have hHz := HH4.out.here hz
    have hrow : Whole (((w4.alloc (.cells (rowB (List.replicate P false)) 4)).alloc (.cells #[.slice (some ⟨w4.heap.size, 0, none⟩) P P] 48)).drew) w4.heap.size 4 (brow P (fun _ => false)) := by
      have h1 : rowB (List.replicate P false) = brow P (fun _ => false) := by
        unfold brow
        congr 1
        apply List.ext_getElem?
        intro q
        by_cases hq : q < P
        · simp [hq]
        · simp [hq]
      have h2 := ((Whole.made w4 4 (rowB (List.replicate P false))).alloc (.cells #[.slice (some ⟨w4.heap.size, 0, none⟩) P P] 48)).drew
      rw [← h1]; exact h2
    have hRn : n = R.length := by rw [HR0.out]; exact HN.out
    have hlow : ∀ x ∈ pm :: (blk a3 ++ F), x < w4.heap.size := fun x hx => by
      have hs4 := HF4.out.size
      simp only [List.mem_cons, List.mem_append] at hx
      rcases hx with rfl | h1 | h1
      · exact hplt4
      · exact (HL4.out.blk_lt x h1).2
      · have := HLOW.out x h1; omega
    refine ⟨by have := hHz.own; rw [← hRn] at this; exact this, ?_, by have := HF4.out.size; have := hz.size; omega, fun b3 e3 w6 happ => ?_⟩
    · have h2 := valsOne (w4.alloc (.cells (rowB (List.replicate P false)) 4)) (.slice (some ⟨w4.heap.size, 0, none⟩) P P) 48 (0, 0)
      rw [hs1] at h2
      exact h2.keep ((Frm.refl [] _).drew) (by simp)
    · obtain ⟨g1, g2, g3, g4⟩ := hHz.app (f := fun _ => false) hRn hrow ⟨by have := HF4.out.size; omega, fun hm => by have := (HH4.out.blk_lt _ hm).2; omega, fun hm => by have := hlow _ hm; omega, fun hm => by have := (HH4.out.row_lt _ hm).2; omega⟩ (fun x hx => by have := hlow x hx; have := hz.size; omega) happ
      refine ⟨hz.trans g2 (by simp) (fun x hx => .inl hx), ?_, fun g hg => (g3 g hg).imp id (fun h => by have := hz.size; omega)⟩
      rw [← hRn] at g1
      exact g1)
  rw [← hw4]
  clear hw4 hf34 hf03 hL3 hG3 hw03 HREL
  have N0 : ∀ z, Frm (blk b) w4 z → z.cell? ⟨pm, 0, none⟩ = some (.int .i64 (P : Nat)) := fun z hz => (hz.cell hplt4 HPAB.out.2).trans d0
  have N4 : ∀ z, Frm (blk b) w4 z → z.cell? ⟨pm, 4, none⟩ = some (.slice b n e) := fun z hz => (hz.cell hplt4 HPAB.out.2).trans d4
  clear d0 d4
  go_upto_region 8 with fail
  refine wp_region_tail (S := fun w' => Frm (blk b) w4 w') (tl := (fun j => j == 15)) (by kernel_rfl) (Frm.drew (Frm.refl _ _)) (fun hHeld => ?_)
  refine tail_take (i := 0) (oi := ⟨some 39, _, _, _, _, _⟩) (v := ?_) rfl (by kernel_rfl) (by kernel_rfl) (by kernel_rfl) (by kernel_rfl) (by kernel_rfl) (fun _ _ _ h => h) (Or.inl ⟨by rfl, ?_⟩) (by assumption) ?_
  rotate_left 1
  · (intro w hSw; (try dsimp only at hSw); go_simp; all_goals with_reducible rfl)
  try simp only [Act.put, List.setIfInBounds_toArray, List.set_cons_zero, List.set_cons_succ]
  refine tail_take (i := 1) (oi := ⟨some 40, _, _, _, _, _⟩) (v := ?_) rfl (by kernel_rfl) (by kernel_rfl) (by kernel_rfl) (by kernel_rfl) (by kernel_rfl) (fun _ _ _ h => h) (Or.inl ⟨by rfl, ?_⟩) (by assumption) ?_
  rotate_left 1
  · (intro w hSw; (try dsimp only at hSw); go_simp; all_goals with_reducible rfl)
  try simp only [Act.put, List.setIfInBounds_toArray, List.set_cons_zero, List.set_cons_succ]
  refine tail_take (i := 2) (oi := ⟨some 41, _, _, _, _, _⟩) (v := ?_) rfl (by kernel_rfl) (by kernel_rfl) (by kernel_rfl) (by kernel_rfl) (by kernel_rfl) (fun _ _ _ h => h) (Or.inl ⟨by rfl, ?_⟩) (by assumption) ?_
  rotate_left 1
  · (intro w hSw; (try dsimp only at hSw); go_simp; all_goals with_reducible rfl)
  try simp only [Act.put, List.setIfInBounds_toArray, List.set_cons_zero, List.set_cons_succ]
  refine tail_take (i := 3) (oi := ⟨some 42, _, _, _, _, _⟩) (v := ?_) rfl (by kernel_rfl) (by kernel_rfl) (by kernel_rfl) (by kernel_rfl) (by kernel_rfl) (fun _ _ _ h => h) (Or.inl ⟨by rfl, ?_⟩) (by assumption) ?_
  rotate_left 1
  · (intro w hSw; (try dsimp only at hSw); go_simp; all_goals with_reducible rfl)
  try simp only [Act.put, List.setIfInBounds_toArray, List.set_cons_zero, List.set_cons_succ]
  refine tail_take (i := 4) (oi := ⟨some 43, _, _, _, _, _⟩) (v := ?_) rfl (by kernel_rfl) (by kernel_rfl) (by kernel_rfl) (by kernel_rfl) (by kernel_rfl) (fun _ _ _ h => h) (Or.inl ⟨by rfl, ?_⟩) (by assumption) ?_
  rotate_left 1
  · (intro w hSw; (try dsimp only at hSw); go_simp; all_goals with_reducible rfl)
  try simp only [Act.put, List.setIfInBounds_toArray, List.set_cons_zero, List.set_cons_succ]
  refine tail_take (i := 5) (oi := ⟨some 44, _, _, _, _, _⟩) (v := ?_) rfl (by kernel_rfl) (by kernel_rfl) (by kernel_rfl) (by kernel_rfl) (by kernel_rfl) (fun _ _ _ h => h) (Or.inl ⟨by rfl, ?_⟩) (by assumption) ?_
  rotate_left 1
  · (intro w hSw; (try dsimp only at hSw); go_simp; all_goals with_reducible rfl)
  try simp only [Act.put, List.setIfInBounds_toArray, List.set_cons_zero, List.set_cons_succ]
  refine tail_take (i := 6) (oi := ⟨some 45, _, _, _, _, _⟩) (v := ?_) rfl (by kernel_rfl) (by kernel_rfl) (by kernel_rfl) (by kernel_rfl) (by kernel_rfl) (fun _ _ _ h => h) (Or.inl ⟨by rfl, ?_⟩) (by assumption) ?_
  rotate_left 1
  · (intro w hSw; (try dsimp only at hSw); go_simp; all_goals with_reducible rfl)
  try simp only [Act.put, List.setIfInBounds_toArray, List.set_cons_zero, List.set_cons_succ]
  refine tail_take (i := 7) (oi := ⟨some 46, _, _, _, _, _⟩) (v := ?_) rfl (by kernel_rfl) (by kernel_rfl) (by kernel_rfl) (by kernel_rfl) (by kernel_rfl) (fun _ _ _ h => h) (Or.inl ⟨by rfl, ?_⟩) (by assumption) ?_
  rotate_left 1
  · (intro w hSw; (try dsimp only at hSw); go_simp; all_goals with_reducible rfl)
  try simp only [Act.put, List.setIfInBounds_toArray, List.set_cons_zero, List.set_cons_succ]
  refine tail_take (i := 8) (oi := ⟨some 47, _, _, _, _, _⟩) (v := ?_) rfl (by kernel_rfl) (by kernel_rfl) (by kernel_rfl) (by kernel_rfl) (by kernel_rfl) (fun _ _ _ h => h) (Or.inl ⟨by rfl, ?_⟩) (by assumption) ?_
  rotate_left 1
  · (intro w hSw; (try dsimp only at hSw); go_simp; all_goals with_reducible rfl)
  try simp only [Act.put, List.setIfInBounds_toArray, List.set_cons_zero, List.set_cons_succ]
  refine tail_take (i := 9) (oi := ⟨some 48, _, _, _, _, _⟩) (v := ?_) rfl (by kernel_rfl) (by kernel_rfl) (by kernel_rfl) (by kernel_rfl) (by kernel_rfl) (fun _ _ _ h => h) (Or.inl ⟨by rfl, ?_⟩) (by assumption) ?_
  rotate_left 1
  · (intro w hSw; (try dsimp only at hSw); go_simp; all_goals with_reducible rfl)
  try simp only [Act.put, List.setIfInBounds_toArray, List.set_cons_zero, List.set_cons_succ]
  refine tail_one (i := 10) (o := ⟨some 49, _, _, _, _, _⟩) (by kernel_rfl) rfl (fun K hK => ?_)
  go_simp
  refine hK.out _ _ (fun _ => by repeat (first | assumption | apply Frm.alloc | apply Frm.drew | exact Frm.refl _ _)) (fun _ => ?_)
  clear hK K
  try simp only [Act.put, List.setIfInBounds_toArray, List.set_cons_zero, List.set_cons_succ]
  refine tail_one (i := 11) (o := ⟨some 50, _, _, _, _, _⟩) (by kernel_rfl) rfl (fun K hK => ?_)
  go_simp
  refine hK.out _ _ (fun _ => by repeat (first | assumption | apply Frm.alloc | apply Frm.drew | exact Frm.refl _ _)) (fun _ => ?_)
  clear hK K
  try simp only [Act.put, List.setIfInBounds_toArray, List.set_cons_zero, List.set_cons_succ]
  refine tail_one (i := 12) (o := ⟨some 51, _, _, _, _, _⟩) (by kernel_rfl) rfl (fun K hK => ?_)
  (refine step_appV (by rfl) (.tmp 43) (.tmp 50) 35 rfl B 48 j0 (.slice none 0 0) 24 Try.underlying35 HJNF.out hy0 rfl hy1 hy2 (by omega) (.slice b n e) n (hvs P R) rfl (HM8.out.1) (some ⟨w4.heap.size + 1, 0, none⟩) 1 1 [.slice (some ⟨w4.heap.size, 0, none⟩) P P] (by first | rfl | simp) (HM8.out.2.1) rfl (fun u hu => by simp at hu; subst hu; rfl) (fun h => by cases h) (by omega) (HM8.out.2.2.1) (n + 1) rfl ?_; intro b3 e3 w6 happ3; have HRE2 := Lib.hid (HM8.out.2.2.2 b3 e3 w6 happ3); have S6 : Frm (blk b) w4 w6 := HRE2.out.1; have x4 := N4 w6 S6; have z4 := (S6.whole HW4.out HPAB.out.2).free 4; clear happ3)
  refine hK.out _ _ (fun _ => by repeat (first | assumption | apply Frm.alloc | apply Frm.drew | exact Frm.refl _ _)) (fun _ => ?_)
  clear hK K
  try simp only [Act.put, List.setIfInBounds_toArray, List.set_cons_zero, List.set_cons_succ]
  refine tail_take (i := 13) (oi := ⟨some 52, _, _, _, _, _⟩) (v := ?_) rfl (by kernel_rfl) (by kernel_rfl) (by kernel_rfl) (by kernel_rfl) (by kernel_rfl) (fun _ _ _ h => h) (Or.inl ⟨by rfl, ?_⟩) (by assumption) ?_
  rotate_left 1
  · (intro w hSw; (try dsimp only at hSw); go_simp; all_goals with_reducible rfl)
  try simp only [Act.put, List.setIfInBounds_toArray, List.set_cons_zero, List.set_cons_succ]
  refine tail_take (i := 14) (oi := ⟨some 53, _, _, _, _, _⟩) (v := ?_) rfl (by kernel_rfl) (by kernel_rfl) (by kernel_rfl) (by kernel_rfl) (by kernel_rfl) (fun _ _ _ h => h) (Or.inl ⟨by rfl, ?_⟩) (by assumption) ?_
  rotate_left 1
  · (intro w hSw; (try dsimp only at hSw); go_simp; all_goals with_reducible rfl)
  try simp only [Act.put, List.setIfInBounds_toArray, List.set_cons_zero, List.set_cons_succ]
  refine tail_one (i := 15) (o := ⟨none, _, _, _, _, _⟩) (by kernel_rfl) rfl (fun K hK => ?_)
  go_simp
  refine hK.out _ _ (fun h => absurd h (by decide)) (fun _ => ?_)
  clear hK K
  try simp only [Act.put, List.setIfInBounds_toArray, List.set_cons_zero, List.set_cons_succ]
  refine tail_done (by kernel_rfl) ?_ _
  clear N0 N4 x4 z4
  obtain ⟨w7, hw7⟩ : ∃ w7, w7 = w6.setCell ⟨pm, 4, none⟩ (.slice b3 (n + 1) e3) := ⟨_, rfl⟩
  rw [← hw7]
  have hf67 : Frm [pm] w6 w7 := by rw [hw7]; exact (Frm.refl _ _).setCell (.inl (by simp)) _
  obtain ⟨hf46, hH6, hG6⟩ := HRE2.out
  have hW7 : Whole w7 pm 37 (dwC P W A (n + 1) a3 c3 b3 e3 su false) := by
    have h1 := hf46.whole HW4.out HPAB.out.2
    have h2 := h1.put 4 (.slice b3 (n + 1) e3)
    rw [hw7]
    simpa [dwC] using h2
  have c3' : w7.cell? ⟨pm, 3, none⟩ = some (.slice a3 (n + 1) c3) := hW7.cell 3
  have hlen : (D ++ [d]).length = n + 1 := by rw [HN.out]; simp
  have hRn : n = R.length := by rw [HR0.out]; exact HN.out
  have hRlow : ∀ g ∈ R ++ [w4.heap.size], g < w6.heap.size := fun g hg => (hH6.row_lt g hg).2
  have HEND : Hid (∀ z, Frm [] w7 z → Q (.returned (.tuple #[.int .u64 (n : Nat), .int .i64 0])) z) := Lib.hid fun z hz => by
    have hf47 : Frm (pm :: blk b) w4 w7 := hf46.trans hf67 (fun x hx => by simp [hx]) (fun x hx => .inl (by simp at hx; simp [hx]))
    refine HFIN.out z (blk a3 ++ (blk b3 ++ (R ++ [w4.heap.size]))) ?_ (fun g hg => ?_) (Dw.here (w := w7) ⟨⟨a3, c3, b3, e3, R ++ [w4.heap.size], vs', by rw [hlen]; exact hW7, rfl, by rw [hlen, List.length_append, ← hRn]; rfl, ?_, hH6.keep hf67 (fun x hx => .inl (by simp at hx; simp [hx])) (fun x hx => .inl hx)⟩, HM.out.quo, by rw [hlen]; have := HM.out.su_le; rw [← HN.out] at this; omega, HM.out.out⟩ hz)
    · refine (HF4.out.trans hf47 (U := pm :: G) (fun x hx => ?_) (fun x hx => ?_)).trans hz (fun x hx => hx) (by simp)
      · rw [HG.out]; simp only [List.mem_cons, List.mem_append] at hx ⊢; rcases hx with h | h
        · exact .inl h
        · exact .inr (.inl h)
      · rw [HG.out]; simp only [List.mem_cons, List.mem_append] at hx ⊢; rcases hx with h | h
        · exact .inl (.inl h)
        · exact .inl (.inr (.inr (.inl h)))
    · rw [HG.out]
      have hs4 := HF4.out.size
      simp only [List.mem_append, List.mem_singleton] at hg ⊢
      rcases hg with h | h | h | h
      · exact (HG3.out g h).imp (fun h => .inl h) id
      · rcases hG6 g h with h1 | h1
        · exact .inl (.inr (.inl h1))
        · exact .inr (by omega)
      · exact .inl (.inr (.inr h))
      · exact .inr (by omega)
    · refine HL4.out.keep hf47 (fun x hx => .inl ?_) (fun x hx => ?_)
      · simp only [List.mem_cons, List.mem_append] at hx ⊢
        rcases hx with h | h
        · exact .inl h
        · exact .inr (.inl h)
      · simp only [List.mem_cons, List.mem_append] at hx ⊢
        rcases hx with h | h | (h | h) | h
        · exact .inl (.inl h)
        · rcases hG6 x h with h1 | h1
          · exact .inl (.inr (.inl h1))
          · exact .inr h1
        · exact .inl (.inr (.inr (.inl h)))
        · exact .inr (by simp at h; omega)
        · exact .inl (.inr (.inr (.inr h)))
  clear hf67 hf46 hH6 hG6 hW7 hlen hRn hRlow hw7 HRE2 HM8 HW4 HL4 HH4 HF4
  have hwn : IntKind.i64.wrap (((n + 1 : Nat) : Int) - 1) = (n : Int) := by rw [IntWalk.i64_in _ (by omega)]; omega
  have hwu : IntKind.u64.wrap (n : Int) = (n : Int) := by rw [IntWalk.u64_in _ (by omega)]
  go_wp2

  exact HEND.out _ (by first | exact Frm.refl _ _ | exact (Frm.refl _ _).drew)
end Go.Proofs.Ytecfoomjpjcldaa
