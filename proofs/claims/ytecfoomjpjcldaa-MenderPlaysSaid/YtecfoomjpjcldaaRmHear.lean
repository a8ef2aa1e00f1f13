/- Contract of Hear of the document's mender. -/
import Derived.Test.YtecfoomjpjcldaaRmFind
import Derived.Test.YtecfoomjpjcldaaApp
import Derived.Test.YtecfoomjpjcldaaStr
import Derived.Deep.RegionHeld
import Derived.Deep.Cut
import Derived.Deep.CutRange
namespace Go.Proofs.Ytecfoomjpjcldaa
open Go.RowKit
set_option maxRecDepth 100000
def browM (P : Nat) (f : Nat → Bool) : Array Value := rowB ((List.range P).map f)
theorem browM_at {P : Nat} {f : Nat → Bool} {j : Nat} (h : j < P) : (browM P f)[j]? = some (.bool (f j)) := by
  unfold browM
  rw [rowB_at _ _ (by simpa using h)]
  simp [h]
theorem browM_set {P : Nat} {f : Nat → Bool} {j : Nat} : (browM P f).setIfInBounds j (.bool true) = browM P (hrd f j) := by
  unfold browM
  rw [rowB_set]
  congr 1
  apply List.ext_getElem?
  intro i
  rw [List.getElem?_set]
  unfold hrd
  by_cases hi : i < P
  · by_cases hj : j = i
    · subst hj; simp [hi]
    · rw [if_neg hj]; simp [hi, Ne.symm hj]
  · by_cases hj : j = i
    · subst hj; simp [hi]
    · rw [if_neg hj]; simp [hi]
def rmC (P W A : Nat) (hbk su : Nat) (a : Option Addr) (n c : Nat) : Array Value := #[.int .i64 (P : Nat), .int .i64 (W : Nat), .int .i64 (A : Nat), .slice (some ⟨hbk, 0, none⟩) P P, .int .u64 (su : Nat), .slice a n c]
/-- The document's mender at p; who was heard at hbk; its rows lie from B on, outside of the blocks F. -/
structure Rm (w : World) (B p hbk : Nat) (F : List Nat) (P W A : Nat) (h : Nat → Bool) (su : Nat) (l : List (Nat × List Nat)) : Prop where
  box : ∃ a n c X, Whole w p 65 (rmC P W A hbk su a n c) ∧ n = X.length ∧ IOwn w B 55 (p :: hbk :: F) a c X ∧ its X = l
  heard : Whole w hbk 4 (browM P h)
  quo : 1 ≤ A ∧ A ≤ W ∧ W ≤ P ∧ P ≤ 7
  out : p ∉ F ∧ hbk ∉ F ∧ p ≠ hbk
section
variable {w w' : World} {B p hbk : Nat} {F F' T : List Nat} {P W A : Nat} {h : Nat → Bool} {su : Nat} {l : List (Nat × List Nat)}
theorem Rm.lt (m : Rm w B p hbk F P W A h su l) : p < w.heap.size ∧ hbk < w.heap.size := by obtain ⟨_, _, _, _, hv, _⟩ := m.box; exact ⟨hv.lt, m.heard.lt⟩
theorem Rm.keep (m : Rm w B p hbk F P W A h su l) (hf : Frm T w w') (hT : ∀ x ∈ T, x ∈ F ∨ w.heap.size ≤ x) (hF : ∀ x ∈ F', x ∈ F ∨ w.heap.size ≤ x) : Rm w' B p hbk F' P W A h su l := by
  have hlt := m.lt
  obtain ⟨a, n, c, X, hv, hn, ho, hi⟩ := m.box
  have hp : ∀ q, q ∉ F → q < w.heap.size → q ∉ T := fun q hq hlt hm => by
    rcases hT q hm with h1 | h1
    · exact hq h1
    · omega
  have hp' : ∀ q, q ∉ F → q < w.heap.size → q ∉ F' := fun q hq hlt hm => by
    rcases hF q hm with h1 | h1
    · exact hq h1
    · omega
  refine ⟨⟨a, n, c, X, hf.whole hv (hp p m.out.1 hlt.1), hn, ho.keep hf (fun x hx => (hT x hx).imp (fun h => List.mem_cons_of_mem _ (List.mem_cons_of_mem _ h)) id) (fun x hx => ?_), hi⟩, hf.whole m.heard (hp hbk m.out.2.1 hlt.2), m.quo, hp' p m.out.1 hlt.1, hp' hbk m.out.2.1 hlt.2, m.out.2.2⟩
  rcases List.mem_cons.1 hx with rfl | hx
  · exact .inl (by simp)
  · rcases List.mem_cons.1 hx with rfl | hx
    · exact .inl (by simp)
    · exact (hF x hx).imp (fun h => List.mem_cons_of_mem _ (List.mem_cons_of_mem _ h)) id
theorem Rm.here (m : Rm w B p hbk F P W A h su l) (hf : Frm [] w w') : Rm w' B p hbk F P W A h su l := m.keep hf (by simp) (fun x hx => .inl hx)
theorem Rm.bin (m : Rm w B p hbk F P W A h su l) : BIn w (some ⟨hbk, 0, none⟩) ((List.range P).map h) := fun j hj => by
  have hj' : j < P := by simpa using hj
  refine ⟨hbk, 0, rfl, ?_⟩
  rw [Nat.zero_add, m.heard.cell j, browM_at hj']
  simp [hj']
end
/-- What Hear answers and leaves. -/
def RmEnd (w : World) (B p hbk : Nat) (F : List Nat) (P W A : Nat) (h : Nat → Bool) (su : Nat) (l : List (Nat × List Nat)) (pl : Int) (sr : Nat) (xs : List (Nat × List Nat)) (e : Ending) (w' : World) : Prop :=
  ((pl < 0 ∨ (P : Int) ≤ pl ∨ 1048576 < sr) ∧ e = .returned (.int .i64 2) ∧ Frm [] w w') ∨
  (∃ pn : Nat, pl = (pn : Int) ∧ pn < P ∧ sr ≤ 1048576 ∧ ((joinF (lookN l) xs = none ∧ e = .returned (.int .i64 21) ∧ Frm [] w w') ∨
    ∃ l', joinF (lookN l) xs = some (lookN l') ∧ l'.length ≤ l.length + xs.length ∧ e = .returned (.int .i64 0) ∧ Frm [p, hbk] w w' ∧ Rm w' B p hbk F P W A (hrd h pn) (max su sr) l'))
def RhRel (w : World) (F : List Nat) (l : List (Nat × List Nat)) (xs : List (Nat × List Nat)) (s9 s10 : Value) (wr : World) : Prop :=
  ∃ (i : Nat) (a : Option Addr) (k c : Nat) (Y : List Ix), s9 = .slice a k c ∧ s10 = .int .i64 (i : Nat) ∧ i ≤ xs.length ∧ Hid (k = Y.length ∧ k ≤ l.length + i) ∧ Hid (joinF (lookN l) xs = joinF (lookN (its Y)) (xs.drop i)) ∧ Hid (IOwn wr w.heap.size 55 F a c Y) ∧ Hid (Frm [] w wr)
set_option maxHeartbeats 16000000 in
theorem rmhear_any {w : World} {B p hbk : Nat} {F G : List Nat} {P W A : Nat} {h : Nat → Bool} {su : Nat} {l : List (Nat × List Nat)} (pl : Int) (sr : Nat) (a : Option Addr) (n c : Nat) (X : List Ix) (m : Rm w B p hbk F P W A h su l) (hB : B ≤ w.heap.size) (hl : l.length ≤ 16777216) (_hsu : su ≤ 1048576) (hsr : sr < 18446744073709551616) (hX : IL w G a X) (hn : n = X.length) (hfit : ∀ x ∈ X, x.t.2.length ≤ 140737488355328) (hn63 : n ≤ 16777216) (hF : ∀ x ∈ F, x < w.heap.size) :
    Calls Try.prog 27 #[.pointer (some ⟨p, 0, none⟩), .int .i64 pl, .int .u64 (sr : Nat), .slice a n c] w (RmEnd w B p hbk F P W A h su l pl sr (its X)) := by
  obtain ⟨i0, hinf, hz0, hz1, hz2⟩ := info_parts infoItM
  obtain ⟨i1, uinf, uz0, uz1, uz2⟩ := info_parts Try.info5
  obtain ⟨Q, hQ⟩ : ∃ Q, Q = RmEnd w B p hbk F P W A h su l pl sr (its X) := ⟨_, rfl⟩
  rw [← hQ]
  have HQ := Lib.hid hQ
  obtain ⟨aI, nI, cI, XI, hv, hnI, hoI, hiI⟩ := m.box
  have n0 : w.cell? ⟨p, 0, none⟩ = some (.int .i64 (P : Nat)) := hv.cell 0
  by_cases hb1 : pl < 0
  · have d1 : decide (pl < (0 : Int)) = true := decide_eq_true hb1
    have HE := Lib.hid (fun z (hz : Frm [] w z) => (by rw [HQ.out]; exact .inl ⟨.inl hb1, rfl, hz⟩ : Q (.returned (.int .i64 2)) z))
    clear hQ hX hfit hF hb1 m hoI hinf uinf
    go_enter Try.func27, Try.ntmps27
    go_wp2
    exact HE.out _ (by repeat (first | apply Frm.drew | apply Frm.drewN | exact Frm.refl _ _))
  have d1 : decide (pl < (0 : Int)) = false := decide_eq_false hb1
  obtain ⟨pn, rfl⟩ : ∃ pn : Nat, pl = (pn : Int) := ⟨pl.toNat, by omega⟩
  by_cases hb2 : P ≤ pn
  · have d2 : decide ((P : Int) ≤ (pn : Int)) = true := decide_eq_true (by omega)
    have d3 : decide (P ≤ pn) = true := decide_eq_true hb2
    have HE := Lib.hid (fun z (hz : Frm [] w z) => (by rw [HQ.out]; exact .inl ⟨.inr (.inl (by omega)), rfl, hz⟩ : Q (.returned (.int .i64 2)) z))
    clear hQ hX hfit hF hb1 hb2 m hoI hinf uinf
    go_enter Try.func27, Try.ntmps27
    go_wp2
    exact HE.out _ (by repeat (first | apply Frm.drew | apply Frm.drewN | exact Frm.refl _ _))
  have d2 : decide ((P : Int) ≤ (pn : Int)) = false := decide_eq_false (by omega)
  have d3 : decide (P ≤ pn) = false := decide_eq_false hb2
  by_cases hb3 : 1048576 < sr
  · have d4 : decide ((1048576 : Int) < (sr : Int)) = true := decide_eq_true (by omega)
    have d5 : decide (1048576 < sr) = true := decide_eq_true hb3
    have HE := Lib.hid (fun z (hz : Frm [] w z) => (by rw [HQ.out]; exact .inl ⟨.inr (.inr hb3), rfl, hz⟩ : Q (.returned (.int .i64 2)) z))
    clear hQ hX hfit hF hb1 hb2 hb3 m hoI hinf uinf
    go_enter Try.func27, Try.ntmps27
    go_wp2
    exact HE.out _ (by repeat (first | apply Frm.drew | apply Frm.drewN | exact Frm.refl _ _))
  have d4 : decide ((1048576 : Int) < (sr : Int)) = false := decide_eq_false (by omega)
  have d5 : decide (1048576 < sr) = false := decide_eq_false hb3
  have n5 : w.cell? ⟨p, 5, none⟩ = some (.slice aI nI cI) := hv.cell 5
  have hnl : nI = l.length := by rw [hnI, ← hiI, its_length]
  have HNL := Lib.hid hnl
  have hnI2 : nI ≤ 16777216 := by omega
  have hmlt := m.lt
  have HM := Lib.hid m
  have HX := Lib.hid hX
  have HN := Lib.hid hn
  have HFI := Lib.hid hfit
  have HLOW := Lib.hid hF
  have HV := Lib.hid hv
  have HOI := Lib.hid hoI
  have HII := Lib.hid hiI
  have HNI := Lib.hid hnI
  have HINF := Lib.hid hinf
  have UI := Lib.hid uinf
  obtain ⟨w1, hw1⟩ : ∃ w1, w1 = w.alloc (.cells #[] 55) := ⟨_, rfl⟩
  have hf1 : Frm [] w w1 := by rw [hw1]; exact (Frm.refl _ _).alloc _
  have hW1E := Lib.hid hw1
  have HOW : Hid (w1.ownsRow w.heap.size 55 2 (.slice (some ⟨w.heap.size, 0, none⟩) 0 0) 0 (ic [])) := Lib.hid (by rw [hw1]; exact World.ownsRow_lit w #[] 0 (Nat.le_refl _) (by unfold maxLen; omega) rfl)
  have hoI1 := hoI.keep hf1 (F' := p :: hbk :: F) (by simp) (fun x hx => .inl hx)
  have HVA : Hid (ValsAt w1 aI (ic XI)) := Lib.hid hoI1.il.vals
  have HBA : Hid (w.heap.size ≤ w1.heap.size) := Lib.hid hf1.size
  have hnilI : aI = none → cI = 0 := hoI.caps.2.2
  have HQA : Hid (∀ (a' : Option Addr) (c' : Nat) (w2 : World), AppS w1 w2 w.heap.size 55 2 (.slice (some ⟨w.heap.size, 0, none⟩) 0 0) 0 nI (ic []) (ic XI) a' c' → RhRel w (p :: hbk :: F) l (its X) (.slice a' (0 + nI) c') (.int .i64 (0 : Nat)) w2) := Lib.hid fun a' c' w2 happ => by
    have hlit : IOwn w1 w.heap.size 55 (p :: hbk :: F) (some ⟨w.heap.size, 0, none⟩) 0 [] := ⟨HOW.out, IOk.nil _ _, fun g hg hm => by
      simp at hg
      subst hg
      simp only [List.mem_cons] at hm
      rcases hm with h1 | h1 | h1
      · omega
      · omega
      · have := HLOW.out _ h1; omega⟩
    have hlow1 : ∀ x ∈ p :: hbk :: F, x < w1.heap.size := fun x hx => by
      have := hf1.size
      simp only [List.mem_cons] at hx
      rcases hx with rfl | rfl | h1
      · omega
      · omega
      · have := HLOW.out _ h1; omega
    have hokI : IOk w1 (blk (some ⟨w.heap.size, 0, none⟩) ++ (p :: hbk :: F)) XI := fun x hx => ((hoI.ok.keep (S := []) (F' := p :: hbk :: F) (Frm.refl _ _) (by simp) (fun x hx => .inl (by simp [hx]))) x hx).keep hf1 (by simp) (fun y hy => by
      simp only [List.mem_append] at hy
      rcases hy with h1 | h1
      · simp at h1; exact .inr (by omega)
      · exact .inl h1)
    obtain ⟨g1, g2, g3, g4⟩ := hlit.app rfl hokI HNI.out hlow1 happ
    refine ⟨0, a', 0 + nI, c', _, rfl, rfl, Nat.zero_le _, Lib.hid ⟨g4, by have := HNL.out; omega⟩, Lib.hid (by rw [List.nil_append, HII.out, List.drop_zero]), Lib.hid g1, Lib.hid (hf1.trans g2 (by simp) (fun x hx => .inr (by simp at hx; omega)))⟩
  have HFIN : Hid (∀ wr z (Y : List Ix) a' c', Frm [] w wr → Frm [p, hbk] wr z → IOwn wr w.heap.size 55 (p :: hbk :: F) a' c' Y → joinF (lookN l) (its X) = some (lookN (its Y)) → Y.length ≤ l.length + n → Whole z p 65 (rmC P W A hbk (max su sr) a' Y.length c') → Whole z hbk 4 (browM P (hrd h pn)) → Q (.returned (.int .i64 0)) z) := Lib.hid (by
    intro wr z Y a' c' hfr hfz hown hj hl2 hwp hwh
    rw [HQ.out]
    refine .inr ⟨pn, rfl, by omega, by omega, .inr ⟨its Y, hj, by rw [its_length, its_length, ← HN.out]; exact hl2, rfl, (hfr.weak (by simp)).trans hfz (fun x hx => hx) (fun x hx => .inl hx), ⟨a', Y.length, c', Y, hwp, rfl, ?_, rfl⟩, hwh, HM.out.quo, HM.out.out⟩⟩
    have := hown.keep hfz (F' := p :: hbk :: F) (fun x hx => .inl (by simp at hx; rcases hx with rfl | rfl <;> simp)) (fun x hx => .inl hx)
    exact ⟨own_baseM this.own hB, this.ok, this.away⟩)
  clear hQ hX hfit hF hb1 hb2 hb3 m hoI hinf uinf hw1 hf1 hoI1 hv hiI hnI hn hnl
  go_enter Try.func27, Try.ntmps27
  go_wp2_with (at_builtin; rw [← hW1E.out]; refine wpList_appS rfl (.tmp 27) (.tmp 31) 49 rfl w.heap.size 55 i0 (.agg #[.int .u64 0, .slice none 0 0]) 2 32 Try.underlying49 HINF.out hz0 rfl (by omega) hz1 hz2 (by omega) (.slice (some ⟨w.heap.size, 0, none⟩) 0 0) 0 (ic []) rfl HOW.out aI nI cI (ic XI) rfl HVA.out (by rw [ic_length, HNI.out]) (ic_one _) hnilI (by omega) HBA.out ?_; intro a' c' w2 happ; have HREL := Lib.hid (HQA.out a' c' w2 happ); clear happ)
  go_loopw [9, 10] (fun s9 s10 wr => RhRel w (p :: hbk :: F) l (its X) s9 s10 wr) (fun _ s10 _ => n - (intOf s10).toNat)
  case atStart =>
    have h := HREL.out
    rw [Nat.zero_add] at h
    exact h
  case round =>
    clear HREL HQA HOW HVA HBA n5
    obtain ⟨i, aY, k, cY, Y, rfl, rfl, hi, HK, HJ, HOY, HFR⟩ := hrel
    rw [its_length] at hi
    have hi2 : i ≤ n := by rw [HN.out]; exact hi
    by_cases hlt : i < n
    · have hiX : i < X.length := by rw [← HN.out]; exact hlt
      obtain ⟨b, off, ha, c0, c1, hix⟩ := (HX.out.keep HFR.out (F' := G) (by simp) (fun x hx => .inl hx)).at hiX
      subst ha
      have hfx := HFI.out (X.getD i default) (by simp [hiX])
      have hdr := HJ.out
      rw [show (its X).drop i = its (X.drop i) by simp [its, List.map_drop], its_drop hiX] at hdr
      obtain ⟨x, hx⟩ : ∃ x, x = X.getD i default := ⟨_, rfl⟩
      rw [← hx] at c0 c1 hix hfx hdr
      obtain ⟨⟨e, d⟩, ad, cd⟩ := x
      have he64 := hix.num
      simp only at he64 c0 c1 hfx hdr
      obtain ⟨dn, hdn⟩ : ∃ dn, dn = d.length := ⟨_, rfl⟩
      rw [← hdn] at c1 hfx
      have HDR := Lib.hid hdr
      have HIX := Lib.hid hix
      have HDN := Lib.hid hdn
      have HFD := Lib.hid (rmfind_any aY k cY Y e HOY.out.il HK.out.1 (by have := HK.out.2; omega))
      clear hdr hix hdn hx hi
      have N0 : ∀ z, Frm [] wr z → z.cell? ⟨b, off + i * 2, none⟩ = some (.int .u64 (e : Nat)) := fun z hz => (hz.cell (block_lt_of_cell c0) (by simp)).trans c0
      have N1 : ∀ z, Frm [] wr z → z.cell? ⟨b, off + i * 2 + 1, none⟩ = some (.slice ad dn cd) := fun z hz => (hz.cell (block_lt_of_cell c1) (by simp)).trans c1
      have hiN : (i : Int) < (n : Int) := by omega
      have HBLT : Hid (b < w.heap.size) := Lib.hid (by
        obtain ⟨b', off', h1, h2, _⟩ := HX.out.at hiX
        injection h1 with h1
        injection h1 with h1 h3
        subst h1
        exact block_lt_of_cell h2)
      have hS0 := Frm.refl [] wr
      have hwm : IntKind.i64.wrap ((i : Int) + 1) = ((i + 1 : Nat) : Int) := by rw [IntWalk.i64_in _ (by omega)]; rfl
      have hwm2 : IntKind.i64.wrap ((i : Int) + 1) = (i : Int) + 1 := IntWalk.i64_in _ (by omega)
      go_wp2_with fail
      (with_reducible refine HFD.out.mono ?_)
      rintro ex wz ⟨rfl, ⟨hno, rfl⟩ | ⟨t, ht, hte, hyes, rfl⟩⟩
      · have HJ2 : Hid (joinF (lookN l) (its X) = joinF (lookN (its Y ++ [(e, d)])) ((its X).drop (i + 1))) := Lib.hid (by
          rw [HDR.out, lookN_snoc hno]
          simp only [joinF]
          rw [hno]
          simp [its, List.map_drop])
        clear hno HFD HDR
        have hneg : decide ((0 : Int) ≤ (-1 : Int)) = false := by decide
        go_upto_region 8 with fail
        refine wp_region_held_drew (S := fun w' => Frm [] wz w') (by kernel_rfl) (Frm.drew (Frm.refl _ _)) (fun hHeld => ?_)
        refine wpAnyH_take (i := 0) (oi := ⟨some 46, _, _, _, _, _⟩) (v := ?_) rfl (by kernel_rfl) (by kernel_rfl) (by kernel_rfl) (fun _ _ _ h => h) (Or.inl ⟨by rfl, ?_⟩) (by assumption) ?_
        rotate_left 1
        · (intro w hSw; (try dsimp only at hSw); go_simp; all_goals with_reducible rfl)
        try simp only [Act.put, List.setIfInBounds_toArray, List.set_cons_zero, List.set_cons_succ]
        refine wpAnyH_take (i := 1) (oi := ⟨some 47, _, _, _, _, _⟩) (v := ?_) rfl (by kernel_rfl) (by kernel_rfl) (by kernel_rfl) (fun _ _ _ h => h) (Or.inl ⟨by rfl, ?_⟩) (by assumption) ?_
        rotate_left 1
        · (intro w hSw; (try dsimp only at hSw); go_simp; all_goals with_reducible rfl)
        try simp only [Act.put, List.setIfInBounds_toArray, List.set_cons_zero, List.set_cons_succ]
        refine wpAnyH_take (i := 2) (oi := ⟨some 48, _, _, _, _, _⟩) (v := ?_) rfl (by kernel_rfl) (by kernel_rfl) (by kernel_rfl) (fun _ _ _ h => h) (Or.inl ⟨by rfl, ?_⟩) (by assumption) ?_
        rotate_left 1
        · (intro w hSw; (try dsimp only at hSw); go_simp; all_goals with_reducible rfl)
        try simp only [Act.put, List.setIfInBounds_toArray, List.set_cons_zero, List.set_cons_succ]
        refine wpAnyH_take (i := 3) (oi := ⟨some 49, _, _, _, _, _⟩) (v := undef) rfl (by kernel_rfl) (by kernel_rfl) (by kernel_rfl) (fun _ _ _ h => h) (Or.inr ⟨by rfl, rfl⟩) (by assumption) ?_
        try simp only [Act.put, List.setIfInBounds_toArray, List.set_cons_zero, List.set_cons_succ]
        refine wpAnyH_take (i := 4) (oi := ⟨some 50, _, _, _, _, _⟩) (v := undef) rfl (by kernel_rfl) (by kernel_rfl) (by kernel_rfl) (fun _ _ _ h => h) (Or.inr ⟨by rfl, rfl⟩) (by assumption) ?_
        try simp only [Act.put, List.setIfInBounds_toArray, List.set_cons_zero, List.set_cons_succ]
        refine wpAnyH_take (i := 5) (oi := ⟨some 51, _, _, _, _, _⟩) (v := undef) rfl (by kernel_rfl) (by kernel_rfl) (by kernel_rfl) (fun _ _ _ h => h) (Or.inr ⟨by rfl, rfl⟩) (by assumption) ?_
        try simp only [Act.put, List.setIfInBounds_toArray, List.set_cons_zero, List.set_cons_succ]
        refine wpAnyH_take (i := 6) (oi := ⟨some 52, _, _, _, _, _⟩) (v := undef) rfl (by kernel_rfl) (by kernel_rfl) (by kernel_rfl) (fun _ _ _ h => h) (Or.inr ⟨by rfl, rfl⟩) (by assumption) ?_
        try simp only [Act.put, List.setIfInBounds_toArray, List.set_cons_zero, List.set_cons_succ]
        refine wpAnyH_take (i := 7) (oi := ⟨some 53, _, _, _, _, _⟩) (v := undef) rfl (by kernel_rfl) (by kernel_rfl) (by kernel_rfl) (fun _ _ _ h => h) (Or.inr ⟨by rfl, rfl⟩) (by assumption) ?_
        try simp only [Act.put, List.setIfInBounds_toArray, List.set_cons_zero, List.set_cons_succ]
        refine wpAnyH_take (i := 8) (oi := ⟨some 54, _, _, _, _, _⟩) (v := undef) rfl (by kernel_rfl) (by kernel_rfl) (by kernel_rfl) (fun _ _ _ h => h) (Or.inr ⟨by rfl, rfl⟩) (by assumption) ?_
        try simp only [Act.put, List.setIfInBounds_toArray, List.set_cons_zero, List.set_cons_succ]
        refine wpAnyH_take (i := 9) (oi := ⟨some 55, _, _, _, _, _⟩) (v := undef) rfl (by kernel_rfl) (by kernel_rfl) (by kernel_rfl) (fun _ _ _ h => h) (Or.inr ⟨by rfl, rfl⟩) (by assumption) ?_
        try simp only [Act.put, List.setIfInBounds_toArray, List.set_cons_zero, List.set_cons_succ]
        refine wpAnyH_take (i := 10) (oi := ⟨some 56, _, _, _, _, _⟩) (v := undef) rfl (by kernel_rfl) (by kernel_rfl) (by kernel_rfl) (fun _ _ _ h => h) (Or.inr ⟨by rfl, rfl⟩) (by assumption) ?_
        try simp only [Act.put, List.setIfInBounds_toArray, List.set_cons_zero, List.set_cons_succ]
        refine wpAnyH_take (i := 11) (oi := ⟨some 57, _, _, _, _, _⟩) (v := undef) rfl (by kernel_rfl) (by kernel_rfl) (by kernel_rfl) (fun _ _ _ h => h) (Or.inr ⟨by rfl, rfl⟩) (by assumption) ?_
        try simp only [Act.put, List.setIfInBounds_toArray, List.set_cons_zero, List.set_cons_succ]
        refine wpAnyH_take (i := 12) (oi := ⟨some 58, _, _, _, _, _⟩) (v := undef) rfl (by kernel_rfl) (by kernel_rfl) (by kernel_rfl) (fun _ _ _ h => h) (Or.inr ⟨by rfl, rfl⟩) (by assumption) ?_
        try simp only [Act.put, List.setIfInBounds_toArray, List.set_cons_zero, List.set_cons_succ]
        refine wpAnyH_take (i := 13) (oi := ⟨some 59, _, _, _, _, _⟩) (v := undef) rfl (by kernel_rfl) (by kernel_rfl) (by kernel_rfl) (fun _ _ _ h => h) (Or.inr ⟨by rfl, rfl⟩) (by assumption) ?_
        try simp only [Act.put, List.setIfInBounds_toArray, List.set_cons_zero, List.set_cons_succ]
        refine wpAnyH_take (i := 14) (oi := ⟨some 60, _, _, _, _, _⟩) (v := undef) rfl (by kernel_rfl) (by kernel_rfl) (by kernel_rfl) (fun _ _ _ h => h) (Or.inr ⟨by rfl, rfl⟩) (by assumption) ?_
        try simp only [Act.put, List.setIfInBounds_toArray, List.set_cons_zero, List.set_cons_succ]
        refine wpAnyH_take (i := 15) (oi := ⟨some 61, _, _, _, _, _⟩) (v := undef) rfl (by kernel_rfl) (by kernel_rfl) (by kernel_rfl) (fun _ _ _ h => h) (Or.inr ⟨by rfl, rfl⟩) (by assumption) ?_
        try simp only [Act.put, List.setIfInBounds_toArray, List.set_cons_zero, List.set_cons_succ]
        refine wpAnyH_take (i := 16) (oi := ⟨some 62, _, _, _, _, _⟩) (v := ?_) rfl (by kernel_rfl) (by kernel_rfl) (by kernel_rfl) (fun _ _ _ h => h) (Or.inl ⟨by rfl, ?_⟩) (by assumption) ?_
        rotate_left 1
        · (intro w hSw; (try dsimp only at hSw); go_simp; all_goals with_reducible rfl)
        try simp only [Act.put, List.setIfInBounds_toArray, List.set_cons_zero, List.set_cons_succ]
        refine wpAnyH_done (by kernel_rfl) ?_ _
        go_wp2_with fail
        go_upto_region 11 with fail
        obtain ⟨wq, hwq⟩ : ∃ wq, wq = wz.drew := ⟨_, rfl⟩
        have hfq : Frm [] wz wq := by rw [hwq]; exact (Frm.refl _ _).drew
        rw [← hwq]
        clear hwq
        have hbY : b ∉ blk aY := fun hm => by
          have h1 := (HOY.out.blk_lt b hm).1
          have h2 := HBLT.out
          omega
        have N0 : ∀ z, Frm (blk aY) wq z → z.cell? ⟨b, off + i * 2, none⟩ = some (.int .u64 (e : Nat)) := fun z hz => (hz.cell (block_lt_of_cell (N0 wq hfq)) hbY).trans (N0 wq hfq)
        have N1 : ∀ z, Frm (blk aY) wq z → z.cell? ⟨b, off + i * 2 + 1, none⟩ = some (.slice ad dn cd) := fun z hz => (hz.cell (block_lt_of_cell (N1 wq hfq)) hbY).trans (N1 wq hfq)
        have hS0 := Frm.refl (blk aY) wq
        have HNILD := Lib.hid HIX.out.nil
        have hfl : Frm [] wq (wq.alloc (.cells #[] 5)).drew := ((Frm.refl _ _).alloc _).drew
        have LIT : Hid ((wq.alloc (.cells #[] 5)).drew.ownsRow wq.heap.size 5 1 (.slice (some ⟨wq.heap.size, 0, none⟩) 0 0) 0 []) := Lib.hid (World.ownsRow_lit wq #[] 0 (Nat.le_refl _) (by unfold maxLen; omega) rfl)
        have BY : Hid (Bytes (wq.alloc (.cells #[] 5)).drew ad d) := Lib.hid ((hfq.trans hfl (U := []) (by simp) (by simp)).bytes' HIX.out.bytes (by simp))
        have SZ : Hid (wq.heap.size ≤ (wq.alloc (.cells #[] 5)).drew.heap.size) := Lib.hid hfl.size
        have FN : Hid (∀ av cv w2, App (wq.alloc (.cells #[] 5)).drew w2 wq.heap.size 5 (.slice (some ⟨wq.heap.size, 0, none⟩) 0 0) 0 dn [] d av cv → Frm [] wq w2 ∧
            (w2.alloc (.cells #[.int .u64 (e : Nat), .slice av dn cv] 55)).ownsRow w.heap.size 55 2 (.slice aY k cY) k (ic Y) ∧
            ValsAt (w2.alloc (.cells #[.int .u64 (e : Nat), .slice av dn cv] 55)) (some ⟨w2.heap.size, 0, none⟩) (ic [⟨(e, d), av, cv⟩]) ∧
            w.heap.size ≤ (w2.alloc (.cells #[.int .u64 (e : Nat), .slice av dn cv] 55)).heap.size ∧
            ∀ a3 c3 w3, AppS (w2.alloc (.cells #[.int .u64 (e : Nat), .slice av dn cv] 55)) w3 w.heap.size 55 2 (.slice aY k cY) k 1 (ic Y) (ic [⟨(e, d), av, cv⟩]) a3 c3 → RhRel w (p :: hbk :: F) l (its X) (.slice a3 (k + 1) c3) (.int .i64 ((i + 1 : Nat) : Nat)) w3 ∧ Frm (blk aY) wq w3) := Lib.hid fun av cv w2 happ => by
          have hf2 : Frm [] wq w2 := hfl.grown happ.grown (fun q hq => .inr (by simp [Value.ownBlock] at hq; omega))
          have hown : w2.ownsRow wq.heap.size 5 1 (.slice av dn cv) dn (d.map u8v) := by
            have := happ.own
            rwa [Nat.zero_add, List.nil_append] at this
          have hob := bytes_of_own hown HIX.out.bytes.1
          have hfa : Frm [] w2 (w2.alloc (.cells #[.int .u64 (e : Nat), .slice av dn cv] 55)) := (Frm.refl _ _).alloc _
          have hfz : Frm [] wz (w2.alloc (.cells #[.int .u64 (e : Nat), .slice av dn cv] 55)) := (hfq.trans hf2 (U := []) (by simp) (by simp)).trans hfa (U := []) (by simp) (by simp)
          have hoY := HOY.out.keep hfz (F' := p :: hbk :: F) (by simp) (fun x hx => .inl hx)
          have hw1 := HFR.out.size
          have hw2 := hfz.size
          have hlow : ∀ x ∈ p :: hbk :: F, x < wq.heap.size := fun x hx => by
            have := hfq.size
            simp only [List.mem_cons] at hx
            rcases hx with rfl | rfl | h1
            · omega
            · omega
            · have := HLOW.out _ h1; omega
          refine ⟨hf2, by have := hoY.own; rw [← HK.out.1] at this; exact this, ?_, by omega, fun a3 c3 w3 happ3 => ?_⟩
          · rw [show ic [⟨(e, d), av, cv⟩] = [.int .u64 (e : Nat), .slice av dn cv] from by rw [HDN.out]; rfl]; exact vals2M _ _ _ _ _
          · have hok : IOk (w2.alloc (.cells #[.int .u64 (e : Nat), .slice av dn cv] 55)) (blk aY ++ (p :: hbk :: F)) [⟨(e, d), av, cv⟩] := by
              intro y hy
              simp only [List.mem_singleton] at hy
              subst hy
              refine ⟨hfa.bytes' hob.2.1 (by simp), fun _ q hq hm => ?_, hob.2.2, he64⟩
              have hq' : av = some q := hq
              have h1 := (World.ownsRow.lt hown q.block (by rw [hq']; rfl)).1
              rcases List.mem_append.1 hm with h2 | h2
              · have := (HOY.out.blk_lt _ h2).2; have := hfq.size; omega
              · have := hlow _ h2; omega
            obtain ⟨g1, g2, g3, g4⟩ := hoY.app HK.out.1 hok rfl (fun x hx => by have := hlow x hx; have := hf2.size; have := hfa.size; omega) happ3
            have hall := hfz.trans g2 (U := blk aY) (by simp) (fun x hx => .inl hx)
            refine ⟨⟨i + 1, a3, k + 1, c3, _, rfl, rfl, by rw [its_length]; omega, Lib.hid ⟨g4, by have := HK.out.2; omega⟩, Lib.hid (by rw [HJ2.out]; simp [its]), Lib.hid g1, Lib.hid (HFR.out.trans hall (U := []) (by simp) (fun x hx => .inr (HOY.out.blk_lt x hx).1))⟩, (hf2.trans hfa (U := []) (by simp) (by simp)).trans g2 (by simp) (fun x hx => .inl hx)⟩
        clear hfl hfq
        refine wp_region_held_drew (S := fun w' => Frm (blk aY) wq w') (by kernel_rfl) (Frm.drew (Frm.refl _ _)) (fun hHeld => ?_)
        refine wpAnyH_take (i := 0) (oi := ⟨some 65, _, _, _, _, _⟩) (v := ?_) rfl (by kernel_rfl) (by kernel_rfl) (by kernel_rfl) (fun _ _ _ h => h) (Or.inl ⟨by rfl, ?_⟩) (by assumption) ?_
        rotate_left 1
        · (intro w hSw; (try dsimp only at hSw); go_simp; all_goals with_reducible rfl)
        try simp only [Act.put, List.setIfInBounds_toArray, List.set_cons_zero, List.set_cons_succ]
        refine wpAnyH_take (i := 1) (oi := ⟨some 66, _, _, _, _, _⟩) (v := ?_) rfl (by kernel_rfl) (by kernel_rfl) (by kernel_rfl) (fun _ _ _ h => h) (Or.inl ⟨by rfl, ?_⟩) (by assumption) ?_
        rotate_left 1
        · (intro w hSw; (try dsimp only at hSw); go_simp; all_goals with_reducible rfl)
        try simp only [Act.put, List.setIfInBounds_toArray, List.set_cons_zero, List.set_cons_succ]
        refine wpAnyH_take (i := 2) (oi := ⟨some 67, _, _, _, _, _⟩) (v := ?_) rfl (by kernel_rfl) (by kernel_rfl) (by kernel_rfl) (fun _ _ _ h => h) (Or.inl ⟨by rfl, ?_⟩) (by assumption) ?_
        rotate_left 1
        · (intro w hSw; (try dsimp only at hSw); go_simp; all_goals with_reducible rfl)
        try simp only [Act.put, List.setIfInBounds_toArray, List.set_cons_zero, List.set_cons_succ]
        refine wpAnyH_take (i := 3) (oi := ⟨some 68, _, _, _, _, _⟩) (v := ?_) rfl (by kernel_rfl) (by kernel_rfl) (by kernel_rfl) (fun _ _ _ h => h) (Or.inl ⟨by rfl, ?_⟩) (by assumption) ?_
        rotate_left 1
        · (intro w hSw; (try dsimp only at hSw); go_simp; all_goals with_reducible rfl)
        try simp only [Act.put, List.setIfInBounds_toArray, List.set_cons_zero, List.set_cons_succ]
        refine wpAnyH_take (i := 4) (oi := ⟨some 69, _, _, _, _, _⟩) (v := ?_) rfl (by kernel_rfl) (by kernel_rfl) (by kernel_rfl) (fun _ _ _ h => h) (Or.inl ⟨by rfl, ?_⟩) (by assumption) ?_
        rotate_left 1
        · (intro w hSw; (try dsimp only at hSw); go_simp; all_goals with_reducible rfl)
        try simp only [Act.put, List.setIfInBounds_toArray, List.set_cons_zero, List.set_cons_succ]
        refine wpAnyH_take (i := 5) (oi := ⟨some 70, _, _, _, _, _⟩) (v := ?_) rfl (by kernel_rfl) (by kernel_rfl) (by kernel_rfl) (fun _ _ _ h => h) (Or.inl ⟨by rfl, ?_⟩) (by assumption) ?_
        rotate_left 1
        · (intro w hSw; (try dsimp only at hSw); go_simp; all_goals with_reducible rfl)
        try simp only [Act.put, List.setIfInBounds_toArray, List.set_cons_zero, List.set_cons_succ]
        refine wpAnyH_take (i := 7) (oi := ⟨some 72, _, _, _, _, _⟩) (v := ?_) rfl (by kernel_rfl) (by kernel_rfl) (by kernel_rfl) (fun _ _ _ h => h) (Or.inl ⟨by rfl, ?_⟩) (by assumption) ?_
        rotate_left 1
        · (intro w hSw; (try dsimp only at hSw); go_simp; all_goals with_reducible rfl)
        try simp only [Act.put, List.setIfInBounds_toArray, List.set_cons_zero, List.set_cons_succ]
        refine wpAnyH_take (i := 8) (oi := ⟨some 73, _, _, _, _, _⟩) (v := ?_) rfl (by kernel_rfl) (by kernel_rfl) (by kernel_rfl) (fun _ _ _ h => h) (Or.inl ⟨by rfl, ?_⟩) (by assumption) ?_
        rotate_left 1
        · (intro w hSw; (try dsimp only at hSw); go_simp; all_goals with_reducible rfl)
        try simp only [Act.put, List.setIfInBounds_toArray, List.set_cons_zero, List.set_cons_succ]
        refine wpAnyH_take (i := 9) (oi := ⟨some 74, _, _, _, _, _⟩) (v := ?_) rfl (by kernel_rfl) (by kernel_rfl) (by kernel_rfl) (fun _ _ _ h => h) (Or.inl ⟨by rfl, ?_⟩) (by assumption) ?_
        rotate_left 1
        · (intro w hSw; (try dsimp only at hSw); go_simp; all_goals with_reducible rfl)
        try simp only [Act.put, List.setIfInBounds_toArray, List.set_cons_zero, List.set_cons_succ]
        refine wpAnyH_take (i := 10) (oi := ⟨some 75, _, _, _, _, _⟩) (v := ?_) rfl (by kernel_rfl) (by kernel_rfl) (by kernel_rfl) (fun _ _ _ h => h) (Or.inl ⟨by rfl, ?_⟩) (by assumption) ?_
        rotate_left 1
        · (intro w hSw; (try dsimp only at hSw); go_simp; all_goals with_reducible rfl)
        try simp only [Act.put, List.setIfInBounds_toArray, List.set_cons_zero, List.set_cons_succ]
        refine wpAnyH_take (i := 11) (oi := ⟨some 76, _, _, _, _, _⟩) (v := ?_) rfl (by kernel_rfl) (by kernel_rfl) (by kernel_rfl) (fun _ _ _ h => h) (Or.inl ⟨by rfl, ?_⟩) (by assumption) ?_
        rotate_left 1
        · (intro w hSw; (try dsimp only at hSw); go_simp; all_goals with_reducible rfl)
        try simp only [Act.put, List.setIfInBounds_toArray, List.set_cons_zero, List.set_cons_succ]
        refine wpAnyH_ready (rs := [6]) (by kernel_rfl) (by simp) ?_
        refine AllReadyH.cons (o := ⟨some 71, _, _, _, _, _⟩) rfl (fun K hK => ?_) AllReadyH.nil
        go_simp
        refine hK.out _ _ (by repeat (first | assumption | apply Frm.alloc | apply Frm.drew | exact Frm.refl _ _)) (fun hHeld => ?_)
        clear hK K
        try simp only [Act.put, List.setIfInBounds_toArray, List.set_cons_zero, List.set_cons_succ]
        refine wpAnyH_ready (rs := [12]) (by kernel_rfl) (by simp) ?_
        refine AllReadyH.cons (o := ⟨some 77, _, _, _, _, _⟩) rfl (fun K hK => ?_) AllReadyH.nil
        (refine step_app rfl (.tmp 71) (.tmp 76) 38 rfl wq.heap.size 5 i1 Try.underlying38 UI.out uz0 uz1 uz2 _ 0 [] rfl LIT.out _ _ _ d rfl BY.out HDN.out HNILD.out (by omega) SZ.out ?_; intro av cv w2 happ; simp only [Nat.zero_add]; have HON2 := Lib.hid (FN.out av cv w2 happ); have S2 : Frm (blk aY) wq w2 := HON2.out.1.weak (by simp); clear happ)
        refine hK.out _ _ (by repeat (first | assumption | apply Frm.alloc | apply Frm.drew | exact Frm.refl _ _)) (fun hHeld => ?_)
        clear hK K
        try simp only [Act.put, List.setIfInBounds_toArray, List.set_cons_zero, List.set_cons_succ]
        refine wpAnyH_take (i := 13) (oi := ⟨some 78, _, _, _, _, _⟩) (v := ?_) rfl (by kernel_rfl) (by kernel_rfl) (by kernel_rfl) (fun _ _ _ h => h) (Or.inl ⟨by rfl, ?_⟩) (by assumption) ?_
        rotate_left 1
        · (intro w hSw; (try dsimp only at hSw); go_simp; all_goals with_reducible rfl)
        try simp only [Act.put, List.setIfInBounds_toArray, List.set_cons_zero, List.set_cons_succ]
        refine wpAnyH_ready (rs := [14]) (by kernel_rfl) (by simp) ?_
        refine AllReadyH.cons (o := ⟨some 79, _, _, _, _, _⟩) rfl (fun K hK => ?_) AllReadyH.nil
        go_simp
        refine hK.out _ _ (by repeat (first | assumption | apply Frm.alloc | apply Frm.drew | exact Frm.refl _ _)) (fun hHeld => ?_)
        clear hK K
        try simp only [Act.put, List.setIfInBounds_toArray, List.set_cons_zero, List.set_cons_succ]
        refine wpAnyH_ready (rs := [15]) (by kernel_rfl) (by simp) ?_
        refine AllReadyH.cons (o := ⟨some 80, _, _, _, _, _⟩) rfl (fun K hK => ?_) AllReadyH.nil
        (refine step_appS (by rfl) (.tmp 65) (.tmp 79) 49 rfl w.heap.size 55 i0 (.agg #[.int .u64 0, .slice none 0 0]) 2 32 Try.underlying49 HINF.out hz0 rfl (by omega) hz1 hz2 (by omega) (.slice aY k cY) k (ic Y) rfl (HON2.out.2.1) (some ⟨w2.heap.size, 0, none⟩) 1 1 (ic [⟨(e, d), av, cv⟩]) rfl (HON2.out.2.2.1) rfl (ic_one _) (fun h => by cases h) (by have := HK.out.2; omega) (HON2.out.2.2.2.1) (k + 1) rfl ?_; intro a3 c3 w3 happ3; have HREL := Lib.hid (HON2.out.2.2.2.2 a3 c3 w3 happ3); have S3 : Frm (blk aY) wq w3 := HREL.out.2; clear happ3)
        refine hK.out _ _ (by repeat (first | assumption | apply Frm.alloc | apply Frm.drew | exact Frm.refl _ _)) (fun hHeld => ?_)
        clear hK K
        try simp only [Act.put, List.setIfInBounds_toArray, List.set_cons_zero, List.set_cons_succ]
        refine wpAnyH_take (i := 16) (oi := ⟨some 9, _, _, _, _, _⟩) (v := ?_) rfl (by kernel_rfl) (by kernel_rfl) (by kernel_rfl) (fun _ _ _ h => h) (Or.inl ⟨by rfl, ?_⟩) (by assumption) ?_
        rotate_left 1
        · (intro w hSw; (try dsimp only at hSw); go_simp; all_goals with_reducible rfl)
        try simp only [Act.put, List.setIfInBounds_toArray, List.set_cons_zero, List.set_cons_succ]
        refine wpAnyH_done (by kernel_rfl) ?_ _
        clear N0 N1 LIT BY SZ FN
        go_wp2
        go_roundw
        case rel => first | exact HREL.out.1 | (rw [show ((i : Int) + 1) = ((i + 1 : Nat) : Int) from rfl]; exact HREL.out.1)
        case measure => simp [intOf]; omega
      · rw [its_length] at ht
        rw [its_getD ht] at hte hyes
        obtain ⟨bY, offY, hbYe, y0, y1, hiy⟩ := HOY.out.il.at ht
        obtain ⟨y, hy⟩ : ∃ y, y = Y.getD t default := ⟨_, rfl⟩
        rw [← hy] at y0 y1 hiy hte hyes
        obtain ⟨⟨e3, yd⟩, ay, cy⟩ := y
        simp only at hte hyes y1
        obtain ⟨yn, hyn⟩ : ∃ yn, yn = yd.length := ⟨_, rfl⟩
        have C1 : ∀ z, Frm [] wz z → (convert 38 9 (.slice ay yn cy)).run Try.prog z = .ok (.string (strOf yd)) z := fun z hz => run_to_string (P := Try.prog) (e := 5) Try.underlying38 Try.underlying5 Try.underlying9 (hz.bytes' hiy.bytes (by simp)) hyn
        have C2 : ∀ z, Frm [] wz z → (convert 38 9 (.slice ad dn cd)).run Try.prog z = .ok (.string (strOf d)) z := fun z hz => run_to_string (P := Try.prog) (e := 5) Try.underlying38 Try.underlying5 Try.underlying9 (hz.bytes' HIX.out.bytes (by simp)) HDN.out
        rw [← hyn] at y1
        have N2 : ∀ z, Frm [] wz z → z.cell? ⟨bY, offY + t * 2 + 1, none⟩ = some (.slice ay yn cy) := fun z hz => (hz.cell (block_lt_of_cell y1) (by simp)).trans y1
        have htk : (t : Int) < (k : Int) := by have := HK.out.1; omega
        have htk2 : t < k := by have := HK.out.1; omega
        have htp : decide ((0 : Int) ≤ (t : Int)) = true := decide_eq_true (by omega)
        have htn : decide ((t : Int) < (0 : Int)) = false := decide_eq_false (by omega)
        have HY8 := Lib.hid hiy.bytes.1
        have HYES := Lib.hid hyes
        subst hbYe
        clear hiy hy hyn hte hyes y0 HFD
        by_cases hdd : yd = d
        · have HJ2 : Hid (joinF (lookN l) (its X) = joinF (lookN (its Y)) ((its X).drop (i + 1))) := Lib.hid (by
            rw [HDR.out]
            simp only [joinF]
            rw [HYES.out, hdd]
            simp [its, List.map_drop])
          have hs : ((strOf yd).toList == (strOf d).toList) = true := by rw [hdd]; simp
          have HREL : Hid (∀ z, Frm [] wz z → RhRel w (p :: hbk :: F) l (its X) (.slice (some ⟨bY, offY, none⟩) k cY) (.int .i64 ((i + 1 : Nat) : Nat)) z) := Lib.hid fun z hz => ⟨i + 1, _, k, cY, Y, rfl, rfl, by rw [its_length]; omega, Lib.hid ⟨HK.out.1, by have := HK.out.2; omega⟩, HJ2, Lib.hid (HOY.out.keep hz (by simp) (fun x hx => .inl hx)), Lib.hid (HFR.out.trans hz (by simp) (by simp))⟩
          clear HDR HYES hdd
          go_upto_region 8 with fail
          refine wp_region_held_drew (S := fun w' => Frm [] wz w') (by kernel_rfl) (Frm.drew (Frm.refl _ _)) (fun hHeld => ?_)
          refine wpAnyH_take (i := 0) (oi := ⟨some 46, _, _, _, _, _⟩) (v := ?_) rfl (by kernel_rfl) (by kernel_rfl) (by kernel_rfl) (fun _ _ _ h => h) (Or.inl ⟨by rfl, ?_⟩) (by assumption) ?_
          rotate_left 1
          · (intro w hSw; (try dsimp only at hSw); go_simp; all_goals with_reducible rfl)
          try simp only [Act.put, List.setIfInBounds_toArray, List.set_cons_zero, List.set_cons_succ]
          refine wpAnyH_take (i := 1) (oi := ⟨some 47, _, _, _, _, _⟩) (v := ?_) rfl (by kernel_rfl) (by kernel_rfl) (by kernel_rfl) (fun _ _ _ h => h) (Or.inl ⟨by rfl, ?_⟩) (by assumption) ?_
          rotate_left 1
          · (intro w hSw; (try dsimp only at hSw); go_simp; all_goals with_reducible rfl)
          try simp only [Act.put, List.setIfInBounds_toArray, List.set_cons_zero, List.set_cons_succ]
          refine wpAnyH_take (i := 2) (oi := ⟨some 48, _, _, _, _, _⟩) (v := ?_) rfl (by kernel_rfl) (by kernel_rfl) (by kernel_rfl) (fun _ _ _ h => h) (Or.inl ⟨by rfl, ?_⟩) (by assumption) ?_
          rotate_left 1
          · (intro w hSw; (try dsimp only at hSw); go_simp; all_goals with_reducible rfl)
          try simp only [Act.put, List.setIfInBounds_toArray, List.set_cons_zero, List.set_cons_succ]
          refine wpAnyH_take (i := 3) (oi := ⟨some 49, _, _, _, _, _⟩) (v := ?_) rfl (by kernel_rfl) (by kernel_rfl) (by kernel_rfl) (fun _ _ _ h => h) (Or.inl ⟨by rfl, ?_⟩) (by assumption) ?_
          rotate_left 1
          · (intro w hSw; (try dsimp only at hSw); go_simp; all_goals with_reducible rfl)
          try simp only [Act.put, List.setIfInBounds_toArray, List.set_cons_zero, List.set_cons_succ]
          refine wpAnyH_take (i := 4) (oi := ⟨some 50, _, _, _, _, _⟩) (v := ?_) rfl (by kernel_rfl) (by kernel_rfl) (by kernel_rfl) (fun _ _ _ h => h) (Or.inl ⟨by rfl, ?_⟩) (by assumption) ?_
          rotate_left 1
          · (intro w hSw; (try dsimp only at hSw); go_simp; all_goals with_reducible rfl)
          try simp only [Act.put, List.setIfInBounds_toArray, List.set_cons_zero, List.set_cons_succ]
          refine wpAnyH_take (i := 5) (oi := ⟨some 51, _, _, _, _, _⟩) (v := ?_) rfl (by kernel_rfl) (by kernel_rfl) (by kernel_rfl) (fun _ _ _ h => h) (Or.inl ⟨by rfl, ?_⟩) (by assumption) ?_
          rotate_left 1
          · (intro w hSw; (try dsimp only at hSw); go_simp; all_goals with_reducible rfl)
          try simp only [Act.put, List.setIfInBounds_toArray, List.set_cons_zero, List.set_cons_succ]
          refine wpAnyH_take (i := 6) (oi := ⟨some 52, _, _, _, _, _⟩) (v := ?_) rfl (by kernel_rfl) (by kernel_rfl) (by kernel_rfl) (fun _ _ _ h => h) (Or.inl ⟨by rfl, ?_⟩) (by assumption) ?_
          rotate_left 1
          · (intro w hSw; (try dsimp only at hSw); go_simp; all_goals with_reducible rfl)
          try simp only [Act.put, List.setIfInBounds_toArray, List.set_cons_zero, List.set_cons_succ]
          refine wpAnyH_take (i := 7) (oi := ⟨some 53, _, _, _, _, _⟩) (v := ?_) rfl (by kernel_rfl) (by kernel_rfl) (by kernel_rfl) (fun _ _ _ h => h) (Or.inl ⟨by rfl, ?_⟩) (by assumption) ?_
          rotate_left 1
          · (intro w hSw; (try dsimp only at hSw); go_simp; all_goals with_reducible rfl)
          try simp only [Act.put, List.setIfInBounds_toArray, List.set_cons_zero, List.set_cons_succ]
          refine wpAnyH_take (i := 8) (oi := ⟨some 54, _, _, _, _, _⟩) (v := ?_) rfl (by kernel_rfl) (by kernel_rfl) (by kernel_rfl) (fun _ _ _ h => h) (Or.inl ⟨by rfl, ?_⟩) (by assumption) ?_
          rotate_left 1
          · (intro w hSw; (try dsimp only at hSw); go_simp; all_goals with_reducible rfl)
          try simp only [Act.put, List.setIfInBounds_toArray, List.set_cons_zero, List.set_cons_succ]
          refine wpAnyH_take (i := 9) (oi := ⟨some 55, _, _, _, _, _⟩) (v := ?_) rfl (by kernel_rfl) (by kernel_rfl) (by kernel_rfl) (fun _ _ _ h => h) (Or.inl ⟨by rfl, ?_⟩) (by assumption) ?_
          rotate_left 1
          · (intro w hSw; (try dsimp only at hSw); go_simp; all_goals with_reducible rfl)
          try simp only [Act.put, List.setIfInBounds_toArray, List.set_cons_zero, List.set_cons_succ]
          refine wpAnyH_take (i := 10) (oi := ⟨some 56, _, _, _, _, _⟩) (v := ?_) rfl (by kernel_rfl) (by kernel_rfl) (by kernel_rfl) (fun _ _ _ h => h) (Or.inl ⟨by rfl, ?_⟩) (by assumption) ?_
          rotate_left 1
          · (intro w hSw; (try dsimp only at hSw); go_simp; all_goals with_reducible rfl)
          try simp only [Act.put, List.setIfInBounds_toArray, List.set_cons_zero, List.set_cons_succ]
          refine wpAnyH_take (i := 11) (oi := ⟨some 57, _, _, _, _, _⟩) (v := ?_) rfl (by kernel_rfl) (by kernel_rfl) (by kernel_rfl) (fun _ _ _ h => h) (Or.inl ⟨by rfl, ?_⟩) (by assumption) ?_
          rotate_left 1
          · (intro w hSw; (try dsimp only at hSw); go_simp; all_goals with_reducible rfl)
          try simp only [Act.put, List.setIfInBounds_toArray, List.set_cons_zero, List.set_cons_succ]
          refine wpAnyH_take (i := 12) (oi := ⟨some 58, _, _, _, _, _⟩) (v := ?_) rfl (by kernel_rfl) (by kernel_rfl) (by kernel_rfl) (fun _ _ _ h => h) (Or.inl ⟨by rfl, ?_⟩) (by assumption) ?_
          rotate_left 1
          · (intro w hSw; (try dsimp only at hSw); go_simp; all_goals with_reducible rfl)
          try simp only [Act.put, List.setIfInBounds_toArray, List.set_cons_zero, List.set_cons_succ]
          refine wpAnyH_take (i := 13) (oi := ⟨some 59, _, _, _, _, _⟩) (v := ?_) rfl (by kernel_rfl) (by kernel_rfl) (by kernel_rfl) (fun _ _ _ h => h) (Or.inl ⟨by rfl, ?_⟩) (by assumption) ?_
          rotate_left 1
          · (intro w hSw; (try dsimp only at hSw); go_simp; all_goals with_reducible rfl)
          try simp only [Act.put, List.setIfInBounds_toArray, List.set_cons_zero, List.set_cons_succ]
          refine wpAnyH_take (i := 14) (oi := ⟨some 60, _, _, _, _, _⟩) (v := ?_) rfl (by kernel_rfl) (by kernel_rfl) (by kernel_rfl) (fun _ _ _ h => h) (Or.inl ⟨by rfl, ?_⟩) (by assumption) ?_
          rotate_left 1
          · (intro w hSw; (try dsimp only at hSw); go_simp; all_goals with_reducible rfl)
          try simp only [Act.put, List.setIfInBounds_toArray, List.set_cons_zero, List.set_cons_succ]
          refine wpAnyH_take (i := 15) (oi := ⟨some 61, _, _, _, _, _⟩) (v := ?_) rfl (by kernel_rfl) (by kernel_rfl) (by kernel_rfl) (fun _ _ _ h => h) (Or.inl ⟨by rfl, ?_⟩) (by assumption) ?_
          rotate_left 1
          · (intro w hSw; (try dsimp only at hSw); go_simp; all_goals with_reducible rfl)
          try simp only [Act.put, List.setIfInBounds_toArray, List.set_cons_zero, List.set_cons_succ]
          refine wpAnyH_take (i := 16) (oi := ⟨some 62, _, _, _, _, _⟩) (v := ?_) rfl (by kernel_rfl) (by kernel_rfl) (by kernel_rfl) (fun _ _ _ h => h) (Or.inl ⟨by rfl, ?_⟩) (by assumption) ?_
          rotate_left 1
          · (intro w hSw; (try dsimp only at hSw); go_simp; all_goals with_reducible rfl)
          try simp only [Act.put, List.setIfInBounds_toArray, List.set_cons_zero, List.set_cons_succ]
          refine wpAnyH_done (by kernel_rfl) ?_ _
          clear C1 C2 N2 hs N0 N1
          go_wp2
          go_roundw
          case rel => first | exact HREL.out _ (by repeat (first | apply Frm.drew | apply Frm.drewN | exact Frm.refl _ _)) | (rw [show ((i : Int) + 1) = ((i + 1 : Nat) : Int) from rfl]; exact HREL.out _ (by repeat (first | apply Frm.drew | apply Frm.drewN | exact Frm.refl _ _)))
          case measure => simp [intOf]; omega
        · have HNO : Hid (joinF (lookN l) (its X) = none) := Lib.hid (by
            rw [HDR.out]
            simp only [joinF]
            rw [HYES.out]
            simp [hdd])
          have hs : ((strOf yd).toList == (strOf d).toList) = false := by
            rw [beq_eq_false_iff_ne]
            intro h
            exact hdd (strOf_inj HY8.out HIX.out.bytes.1 (ByteArray.ext (Array.toList_inj.1 (by rwa [ByteArray.toList_eq, ByteArray.toList_eq] at h))))
          have HZ : Hid (∀ z, Frm [] wz z → Q (.returned (.int .i64 21)) z) := Lib.hid fun z hz => by
            rw [HQ.out]
            exact .inr ⟨pn, rfl, by have := of_decide_eq_false d3; omega, by have := of_decide_eq_false d5; omega, .inl ⟨HNO.out, rfl, HFR.out.trans hz (by simp) (by simp)⟩⟩
          clear HDR HYES hdd
          go_upto_region 8 with fail
          refine wp_region_held_drew (S := fun w' => Frm [] wz w') (by kernel_rfl) (Frm.drew (Frm.refl _ _)) (fun hHeld => ?_)
          refine wpAnyH_take (i := 0) (oi := ⟨some 46, _, _, _, _, _⟩) (v := ?_) rfl (by kernel_rfl) (by kernel_rfl) (by kernel_rfl) (fun _ _ _ h => h) (Or.inl ⟨by rfl, ?_⟩) (by assumption) ?_
          rotate_left 1
          · (intro w hSw; (try dsimp only at hSw); go_simp; all_goals with_reducible rfl)
          try simp only [Act.put, List.setIfInBounds_toArray, List.set_cons_zero, List.set_cons_succ]
          refine wpAnyH_take (i := 1) (oi := ⟨some 47, _, _, _, _, _⟩) (v := ?_) rfl (by kernel_rfl) (by kernel_rfl) (by kernel_rfl) (fun _ _ _ h => h) (Or.inl ⟨by rfl, ?_⟩) (by assumption) ?_
          rotate_left 1
          · (intro w hSw; (try dsimp only at hSw); go_simp; all_goals with_reducible rfl)
          try simp only [Act.put, List.setIfInBounds_toArray, List.set_cons_zero, List.set_cons_succ]
          refine wpAnyH_take (i := 2) (oi := ⟨some 48, _, _, _, _, _⟩) (v := ?_) rfl (by kernel_rfl) (by kernel_rfl) (by kernel_rfl) (fun _ _ _ h => h) (Or.inl ⟨by rfl, ?_⟩) (by assumption) ?_
          rotate_left 1
          · (intro w hSw; (try dsimp only at hSw); go_simp; all_goals with_reducible rfl)
          try simp only [Act.put, List.setIfInBounds_toArray, List.set_cons_zero, List.set_cons_succ]
          refine wpAnyH_take (i := 3) (oi := ⟨some 49, _, _, _, _, _⟩) (v := ?_) rfl (by kernel_rfl) (by kernel_rfl) (by kernel_rfl) (fun _ _ _ h => h) (Or.inl ⟨by rfl, ?_⟩) (by assumption) ?_
          rotate_left 1
          · (intro w hSw; (try dsimp only at hSw); go_simp; all_goals with_reducible rfl)
          try simp only [Act.put, List.setIfInBounds_toArray, List.set_cons_zero, List.set_cons_succ]
          refine wpAnyH_take (i := 4) (oi := ⟨some 50, _, _, _, _, _⟩) (v := ?_) rfl (by kernel_rfl) (by kernel_rfl) (by kernel_rfl) (fun _ _ _ h => h) (Or.inl ⟨by rfl, ?_⟩) (by assumption) ?_
          rotate_left 1
          · (intro w hSw; (try dsimp only at hSw); go_simp; all_goals with_reducible rfl)
          try simp only [Act.put, List.setIfInBounds_toArray, List.set_cons_zero, List.set_cons_succ]
          refine wpAnyH_take (i := 5) (oi := ⟨some 51, _, _, _, _, _⟩) (v := ?_) rfl (by kernel_rfl) (by kernel_rfl) (by kernel_rfl) (fun _ _ _ h => h) (Or.inl ⟨by rfl, ?_⟩) (by assumption) ?_
          rotate_left 1
          · (intro w hSw; (try dsimp only at hSw); go_simp; all_goals with_reducible rfl)
          try simp only [Act.put, List.setIfInBounds_toArray, List.set_cons_zero, List.set_cons_succ]
          refine wpAnyH_take (i := 6) (oi := ⟨some 52, _, _, _, _, _⟩) (v := ?_) rfl (by kernel_rfl) (by kernel_rfl) (by kernel_rfl) (fun _ _ _ h => h) (Or.inl ⟨by rfl, ?_⟩) (by assumption) ?_
          rotate_left 1
          · (intro w hSw; (try dsimp only at hSw); go_simp; all_goals with_reducible rfl)
          try simp only [Act.put, List.setIfInBounds_toArray, List.set_cons_zero, List.set_cons_succ]
          refine wpAnyH_take (i := 7) (oi := ⟨some 53, _, _, _, _, _⟩) (v := ?_) rfl (by kernel_rfl) (by kernel_rfl) (by kernel_rfl) (fun _ _ _ h => h) (Or.inl ⟨by rfl, ?_⟩) (by assumption) ?_
          rotate_left 1
          · (intro w hSw; (try dsimp only at hSw); go_simp; all_goals with_reducible rfl)
          try simp only [Act.put, List.setIfInBounds_toArray, List.set_cons_zero, List.set_cons_succ]
          refine wpAnyH_take (i := 8) (oi := ⟨some 54, _, _, _, _, _⟩) (v := ?_) rfl (by kernel_rfl) (by kernel_rfl) (by kernel_rfl) (fun _ _ _ h => h) (Or.inl ⟨by rfl, ?_⟩) (by assumption) ?_
          rotate_left 1
          · (intro w hSw; (try dsimp only at hSw); go_simp; all_goals with_reducible rfl)
          try simp only [Act.put, List.setIfInBounds_toArray, List.set_cons_zero, List.set_cons_succ]
          refine wpAnyH_take (i := 9) (oi := ⟨some 55, _, _, _, _, _⟩) (v := ?_) rfl (by kernel_rfl) (by kernel_rfl) (by kernel_rfl) (fun _ _ _ h => h) (Or.inl ⟨by rfl, ?_⟩) (by assumption) ?_
          rotate_left 1
          · (intro w hSw; (try dsimp only at hSw); go_simp; all_goals with_reducible rfl)
          try simp only [Act.put, List.setIfInBounds_toArray, List.set_cons_zero, List.set_cons_succ]
          refine wpAnyH_take (i := 10) (oi := ⟨some 56, _, _, _, _, _⟩) (v := ?_) rfl (by kernel_rfl) (by kernel_rfl) (by kernel_rfl) (fun _ _ _ h => h) (Or.inl ⟨by rfl, ?_⟩) (by assumption) ?_
          rotate_left 1
          · (intro w hSw; (try dsimp only at hSw); go_simp; all_goals with_reducible rfl)
          try simp only [Act.put, List.setIfInBounds_toArray, List.set_cons_zero, List.set_cons_succ]
          refine wpAnyH_take (i := 11) (oi := ⟨some 57, _, _, _, _, _⟩) (v := ?_) rfl (by kernel_rfl) (by kernel_rfl) (by kernel_rfl) (fun _ _ _ h => h) (Or.inl ⟨by rfl, ?_⟩) (by assumption) ?_
          rotate_left 1
          · (intro w hSw; (try dsimp only at hSw); go_simp; all_goals with_reducible rfl)
          try simp only [Act.put, List.setIfInBounds_toArray, List.set_cons_zero, List.set_cons_succ]
          refine wpAnyH_take (i := 12) (oi := ⟨some 58, _, _, _, _, _⟩) (v := ?_) rfl (by kernel_rfl) (by kernel_rfl) (by kernel_rfl) (fun _ _ _ h => h) (Or.inl ⟨by rfl, ?_⟩) (by assumption) ?_
          rotate_left 1
          · (intro w hSw; (try dsimp only at hSw); go_simp; all_goals with_reducible rfl)
          try simp only [Act.put, List.setIfInBounds_toArray, List.set_cons_zero, List.set_cons_succ]
          refine wpAnyH_take (i := 13) (oi := ⟨some 59, _, _, _, _, _⟩) (v := ?_) rfl (by kernel_rfl) (by kernel_rfl) (by kernel_rfl) (fun _ _ _ h => h) (Or.inl ⟨by rfl, ?_⟩) (by assumption) ?_
          rotate_left 1
          · (intro w hSw; (try dsimp only at hSw); go_simp; all_goals with_reducible rfl)
          try simp only [Act.put, List.setIfInBounds_toArray, List.set_cons_zero, List.set_cons_succ]
          refine wpAnyH_take (i := 14) (oi := ⟨some 60, _, _, _, _, _⟩) (v := ?_) rfl (by kernel_rfl) (by kernel_rfl) (by kernel_rfl) (fun _ _ _ h => h) (Or.inl ⟨by rfl, ?_⟩) (by assumption) ?_
          rotate_left 1
          · (intro w hSw; (try dsimp only at hSw); go_simp; all_goals with_reducible rfl)
          try simp only [Act.put, List.setIfInBounds_toArray, List.set_cons_zero, List.set_cons_succ]
          refine wpAnyH_take (i := 15) (oi := ⟨some 61, _, _, _, _, _⟩) (v := ?_) rfl (by kernel_rfl) (by kernel_rfl) (by kernel_rfl) (fun _ _ _ h => h) (Or.inl ⟨by rfl, ?_⟩) (by assumption) ?_
          rotate_left 1
          · (intro w hSw; (try dsimp only at hSw); go_simp; all_goals with_reducible rfl)
          try simp only [Act.put, List.setIfInBounds_toArray, List.set_cons_zero, List.set_cons_succ]
          refine wpAnyH_take (i := 16) (oi := ⟨some 62, _, _, _, _, _⟩) (v := ?_) rfl (by kernel_rfl) (by kernel_rfl) (by kernel_rfl) (fun _ _ _ h => h) (Or.inl ⟨by rfl, ?_⟩) (by assumption) ?_
          rotate_left 1
          · (intro w hSw; (try dsimp only at hSw); go_simp; all_goals with_reducible rfl)
          try simp only [Act.put, List.setIfInBounds_toArray, List.set_cons_zero, List.set_cons_succ]
          refine wpAnyH_done (by kernel_rfl) ?_ _
          clear C1 C2 N2 hs N0 N1
          go_wp2
          exact HZ.out _ (by repeat (first | apply Frm.drew | apply Frm.drewN | exact Frm.refl _ _))
    · obtain rfl : i = n := by omega
      have hd : (its X).drop i = [] := List.drop_eq_nil_of_le (by rw [its_length]; have := HN.out; omega)
      have HJ2 : Hid (joinF (lookN l) (its X) = some (lookN (its Y))) := Lib.hid (by rw [HJ.out, hd]; rfl)
      have hwp := HFR.out.whole HV.out (by simp)
      have hwh := HFR.out.whole HM.out.heard (by simp)
      have hne := HM.out.out.2.2
      have hpnP : pn < P := by have := of_decide_eq_false d3; omega
      have hpi : (pn : Int) < (P : Int) := by omega
      have x0 : wr.cell? ⟨p, 5, none⟩ = some (.slice aI nI cI) := hwp.cell 5
      have x1 : wr.cell? ⟨p, 3, none⟩ = some (.slice (some ⟨hbk, 0, none⟩) P P) := hwp.cell 3
      have x2 : wr.cell? ⟨p, 4, none⟩ = some (.int .u64 (su : Nat)) := hwp.cell 4
      have x3 : wr.cell? ⟨hbk, pn, none⟩ = some (.bool (h pn)) := (hwh.cell pn).trans (browM_at hpnP)
      have z0 := hwp.free 5
      have z1 := hwp.free 4
      have z2 := hwh.free pn
      have hbne : hbk ≠ p := Ne.symm hne
      by_cases hsr2 : su < sr
      · have e1 : decide ((su : Int) < (sr : Int)) = true := decide_eq_true (by omega)
        have e2 : decide (su < sr) = true := decide_eq_true hsr2
        have HZ : Hid (Q (.returned (.int .i64 0)) (((wr.setCell ⟨p, 5, none⟩ (.slice aY k cY)).setCell ⟨hbk, pn, none⟩ (.bool true)).setCell ⟨p, 4, none⟩ (.int .u64 (sr : Nat)))) := Lib.hid (by
          have k1 := ((hwp.put 5 (.slice aY k cY)).other (p := ⟨hbk, pn, none⟩) hne (.bool true)).put 4 (.int .u64 (sr : Nat))
          have k2 := ((hwh.other (p := ⟨p, 5, none⟩) hbne (.slice aY k cY)).put pn (.bool true)).other (p := ⟨p, 4, none⟩) hbne (.int .u64 (sr : Nat))
          rw [browM_set] at k2
          refine HFIN.out wr _ Y aY cY HFR.out ((((Frm.refl _ _).setCell (.inl (by simp)) _).setCell (.inl (by simp)) _).setCell (.inl (by simp)) _) HOY.out HJ2.out (by rw [← HK.out.1]; exact HK.out.2) ?_ k2
          rw [Nat.max_eq_right (by omega), ← HK.out.1]
          simpa [rmC] using k1)
        clear hwp hwh hd HJ2 HFIN
        go_wp2
        exact HZ.out
      · have e1 : decide ((su : Int) < (sr : Int)) = false := decide_eq_false (by omega)
        have e2 : decide (su < sr) = false := decide_eq_false hsr2
        have HZ : Hid (Q (.returned (.int .i64 0)) ((wr.setCell ⟨p, 5, none⟩ (.slice aY k cY)).setCell ⟨hbk, pn, none⟩ (.bool true))) := Lib.hid (by
          have k1 := (hwp.put 5 (.slice aY k cY)).other (p := ⟨hbk, pn, none⟩) hne (.bool true)
          have k2 := (hwh.other (p := ⟨p, 5, none⟩) hbne (.slice aY k cY)).put pn (.bool true)
          rw [browM_set] at k2
          refine HFIN.out wr _ Y aY cY HFR.out (((Frm.refl _ _).setCell (.inl (by simp)) _).setCell (.inl (by simp)) _) HOY.out HJ2.out (by rw [← HK.out.1]; exact HK.out.2) ?_ k2
          rw [Nat.max_eq_left (by omega), ← HK.out.1]
          simpa [rmC] using k1)
        clear hwp hwh hd HJ2 HFIN
        go_wp2
        exact HZ.out
end Go.Proofs.Ytecfoomjpjcldaa
