/- Contract of joined: the entries with those of a list. -/
import Derived.Test.YtecfoomjpjcldaaMdWith
import Derived.Test.YtecfoomjpjcldaaBEq
import Derived.Deep.RegionHeld3
namespace Go.Proofs.Ytecfoomjpjcldaa
open Go.RowKit
set_option maxRecDepth 100000

/-- The entries with those of a list; none, where one has other bytes. -/
def joinT : Tn → List (Nat × List Nat) → Option Tn
  | t, [] => some t
  | t, (k, d) :: l => match atT t k with
    | none => joinT (withT t k d k) l
    | some x => if x = d then joinT t l else none
theorem join_new {t : Tn} {k : Nat} {d : List Nat} {l : List (Nat × List Nat)} (h : atT t k = none) : joinT t ((k, d) :: l) = joinT (withT t k d k) l := by
  simp only [joinT]; rw [h]
theorem join_same {t : Tn} {k : Nat} {d : List Nat} {l : List (Nat × List Nat)} (h : atT t k = some d) : joinT t ((k, d) :: l) = joinT t l := by
  simp only [joinT]; rw [h]; simp
theorem join_other {t : Tn} {k : Nat} {d x : List Nat} {l : List (Nat × List Nat)} (h : atT t k = some x) (hx : x ≠ d) : joinT t ((k, d) :: l) = none := by
  simp only [joinT]; rw [h]; simp [hx]
def JoinEnd (w : World) (F : List Nat) (o : Option Tn) (e : Ending) (w' : World) : Prop :=
  Frm [] w w' ∧ ((o = none ∧ e = .returned (.tuple #[.pointer none, .bool false])) ∨ ∃ v t, o = some t ∧ e = .returned (.tuple #[v, .bool true]) ∧ TnAt w' F v t)
def JoRel (w : World) (F : List Nat) (o : Option Tn) (X : List Ix) (s0 s12 : Value) (wr : World) : Prop :=
  ∃ (v : Value) (t : Tn) (i : Nat), v = s0 ∧ s12 = .int .i64 (i : Nat) ∧ i ≤ X.length ∧ Hid (o = joinT t (its (X.drop i))) ∧ Hid (TnAt wr F v t) ∧ Hid (Frm [] w wr)
theorem its_drop {X : List Ix} {i : Nat} (h : i < X.length) : its (X.drop i) = (X.getD i default).t :: its (X.drop (i + 1)) := by
  have h1 : X.getD i default = X[i] := by rw [List.getD_eq_getElem?_getD, List.getElem?_eq_getElem h]; rfl
  rw [List.drop_eq_getElem_cons h, h1]; rfl
theorem own_baseM {w : World} {base base' : Nat} {e : TypeId} {size n : Nat} {v : Value} {xs : List Value} (h : w.ownsRow base e size v n xs) (hb : base' ≤ base) : w.ownsRow base' e size v n xs := by
  refine ⟨h.1, ?_⟩
  rcases h.2 with h2 | ⟨g, cap, cur, hv, hg, r⟩
  · exact .inl h2
  · exact .inr ⟨g, cap, cur, hv, by omega, r⟩
set_option maxHeartbeats 8000000 in
theorem mjoin_any {w : World} {F G : List Nat} {v : Value} {t : Tn} (a : Option Addr) (n c : Nat) (X : List Ix) (h : TnAt w F v t) (hX : IL w G a X) (hn : n = X.length) (hfit : ∀ x ∈ X, x.t.2.length ≤ 140737488355328) (hn63 : n ≤ 140737488355328) (hF : ∀ x ∈ F, x < w.heap.size) :
    Calls Try.prog 49 #[v, .slice a n c] w (JoinEnd w F (joinT t (its X))) := by
  obtain ⟨Q, hQ⟩ : ∃ Q, Q = JoinEnd w F (joinT t (its X)) := ⟨_, rfl⟩
  rw [← hQ]
  obtain ⟨o, ho⟩ : ∃ o, o = joinT t (its X) := ⟨_, rfl⟩
  rw [← ho] at hQ
  have HR0 : Hid (JoRel w F o X v (.int .i64 (0 : Nat)) w) := Lib.hid ⟨v, t, 0, rfl, rfl, Nat.zero_le _, Lib.hid ho, Lib.hid h, Lib.hid (Frm.refl _ _)⟩
  have HQ := Lib.hid hQ
  have HX := Lib.hid hX
  have HFI := Lib.hid hfit
  have HF := Lib.hid hF
  have HN := Lib.hid hn
  clear h hX hn hfit hF hQ ho
  go_enter Try.func49, Try.ntmps49
  go_wp2
  go_loopw [0, 12] (fun s0 s12 wr => JoRel w F o X s0 s12 wr) (fun _ s12 _ => n - (intOf s12).toNat)
  case atStart => exact HR0.out
  case round =>
    clear HR0
    obtain ⟨v, t, i, rfl, rfl, hi, HO, HT, HFR⟩ := hrel
    by_cases hlt : i < n
    · have hiX : i < X.length := by rw [← HN.out]; exact hlt
      obtain ⟨b, off, ha, c0, c1, hix⟩ := HX.out.at hiX
      subst ha
      have hfx := HFI.out (X.getD i default) (by simp [hiX])
      have hdr := HO.out
      rw [its_drop hiX] at hdr
      obtain ⟨x, hx⟩ : ∃ x, x = X.getD i default := ⟨_, rfl⟩
      rw [← hx] at c0 c1 hix hfx hdr
      obtain ⟨⟨k, d⟩, a1, cx⟩ := x
      clear hx
      have hk := hix.num
      simp only at hk c0 c1 hfx hdr
      have n0 := (HFR.out.cell (block_lt_of_cell c0) (by simp)).trans c0
      have n1 := (HFR.out.cell (block_lt_of_cell c1) (by simp)).trans c1
      have HDR := Lib.hid hdr
      have HIX := Lib.hid hix
      have HFX := Lib.hid hfx
      have HIL := Lib.hid hiX
      clear hdr hix hfx hiX
      obtain ⟨w1, hw1⟩ : ∃ w1, w1 = wr.alloc (.cells #[.int .u64 (k : Nat), .slice a1 d.length cx] 55) := ⟨_, rfl⟩
      have hf1 : Frm [] wr w1 := by rw [hw1]; exact (Frm.refl _ _).alloc _
      have hW1 : Whole w1 wr.heap.size 55 #[.int .u64 (k : Nat), .slice a1 d.length cx] := by rw [hw1]; exact Whole.made _ _ _
      have HW1E := Lib.hid hw1
      clear hw1
      obtain ⟨g, hg⟩ : ∃ g, g = wr.heap.size := ⟨_, rfl⟩
      rw [← hg] at hW1
      have HFI1 := Lib.hid (mfind_any k (HT.out.keep hf1 (F' := F) (by simp) (fun x hx => .inl hx)) hk)
      have HFR1 := Lib.hid (HFR.out.trans hf1 (U := []) (by simp) (by simp))
      have HT1 := Lib.hid (HT.out.keep hf1 (F' := F) (by simp) (fun x hx => .inl hx))
      have HIX1 := Lib.hid (HIX.out.keep HFR1.out (F' := G) (by simp) (fun x hx => .inl hx))
      have HF1 := Lib.hid (fun x hx => Nat.lt_of_lt_of_le (HF.out x hx) HFR1.out.size)
      have HWW := Lib.hid hW1
      clear hf1 HT HFR HIX
      go_wp2_with fail
      rw [← HW1E.out, ← hg]
      clear HW1E hg
      (with_reducible refine HFI1.out.mono ?_)
      rintro ex wz ⟨rfl, ⟨hno, rfl⟩ | ⟨d2, a2, c2, hyes, rfl, hix2⟩⟩
      · have m0 := hW1.cell 0
        have m1 := hW1.cell 1
        simp at m0 m1
        have HDR1 := Lib.hid (HDR.out.trans (join_new hno))
        clear hno HDR HFI1
        have hS0 := Frm.refl [] wz
        have M0 : ∀ y, Frm [] wz y → y.cell? ⟨g, 0, none⟩ = some (.int .u64 (k : Nat)) := fun y hy => (hy.whole HWW.out (by simp)).cell 0
        have M1 : ∀ y, Frm [] wz y → y.cell? ⟨g, 1, none⟩ = some (.slice a1 d.length cx) := fun y hy => (hy.whole HWW.out (by simp)).cell 1
        have HCL := Lib.hid (fun (z : World) (hz : Frm [] wz z) => clone_any a1 d.length cx d z (hz.bytes' HIX1.out.bytes (by simp)) rfl HIX1.out.nil HFX.out)
        have HIW := Lib.hid (fun (z z' : World) (a2 : Option Addr) (c2 : Nat) (hz : Frm [] wz z) (ho : z.ownsRow wz.heap.size 5 1 (.slice a2 d.length c2) d.length (d.map u8v)) (hz' : Frm [] z z') =>
          mwith_any k d a2 c2 HIX1.out.num k (HT1.out.keep (F' := F) (hz.trans hz' (U := []) (by simp) (by simp)) (by simp) (fun x hx => .inl hx))
            ((⟨(own_bytes ho HIX1.out.bytes.1).1, fun hne q hq hm => by
                have hq' : a2 = some q := hq
                have h1 := World.ownsRow.lt ho q.block (by rw [hq']; rfl)
                have := HF1.out _ hm; omega, (own_bytes ho HIX1.out.bytes.1).2, HIX1.out.num⟩ : IxOk z F ⟨(k, d), a2, c2⟩).keep hz' (F' := F) (by simp) (fun x hx => .inl hx)) HIX1.out.num (fun x hx => by have := HF1.out x hx; have := hz.size; have := hz'.size; omega))
        clear m0 m1
        have m0 := M0 _ hS0
        go_wp2
        go_region_held3 (fun y => Frm [] wz y) (repeat (first | assumption | apply Frm.drew | exact Frm.refl _ _)) ((first
          | (go_at_call 43; (with_reducible refine (HCL.out _ (by repeat (first | assumption | apply Frm.drew | exact Frm.refl _ _))).mono ?_); rintro ey w8 ⟨a8, c8, rfl, hown8, hf8⟩; have S8 : Frm [] wz w8 := Frm.trans (by repeat (first | assumption | apply Frm.drew | exact Frm.refl _ _)) hf8 (by simp) (by simp); clear hf8)
          | (go_at_call 59; (with_reducible refine (HIW.out _ _ _ _ S8 (own_baseM hown8 (by first | exact Nat.le_refl _ | exact (Frm.size (by repeat (first | assumption | apply Frm.drew | exact Frm.refl _ _))))) (by repeat (first | assumption | apply Frm.drew | exact Frm.refl _ _))).mono ?_); rintro ey w9 ⟨v9, rfl, hf9, ht9⟩; have S9 : Frm [] wz w9 := Frm.trans (by assumption) hf9 (by simp) (by simp); clear hf9)))
        have HS9 := Lib.hid (HFR1.out.trans S9 (U := []) (by simp) (by simp))
        have HT9 := Lib.hid ht9
        clear S8 S9 hown8 ht9 hS0 M0 M1 m0 HCL HIW HT1 HIX1 HF1 HWW HFR1
        go_wp2
        go_roundw
        case rel => exact ⟨_, _, i + 1, rfl, by go_num, HIL.out, HDR1, HT9, HS9⟩
        case measure => simp [intOf]; omega
      · have m1 : wz.cell? ⟨g, 1, none⟩ = some (.slice a1 d.length cx) := hW1.cell 1
        have HBQ := Lib.hid (fun (z : World) (hz : Frm [] wz z) => bequal_any a2 d2.length c2 d2 a1 d.length cx d z (hz.bytes' hix2.bytes (by simp)) rfl (hz.bytes' HIX1.out.bytes (by simp)) rfl)
        have HYES := Lib.hid hyes
        clear hyes hix2 HFI1
        by_cases hdd : d2 = d
        · have HDD := Lib.hid hdd
          have HDR1 := Lib.hid (HDR.out.trans (join_same (by rw [HYES.out, HDD.out])))
          rw [show decide (d2 = d) = true from decide_eq_true hdd] at HBQ
          clear hdd HDR
          go_wp2_with fail
          (with_reducible refine (HBQ.out _ (by repeat (first | apply Frm.drew | apply Frm.drewN | exact Frm.refl _ _))).mono ?_)
          rintro ey w9 ⟨rfl, rfl⟩
          go_wp2
          go_roundw
          case rel => exact ⟨_, _, i + 1, rfl, by go_num, HIL.out, HDR1, HT1, HFR1⟩
          case measure => simp [intOf]; omega
        · have HDR1 := Lib.hid (HDR.out.trans (join_other HYES.out hdd))
          rw [show decide (d2 = d) = false from decide_eq_false hdd] at HBQ
          clear hdd HDR
          go_wp2_with fail
          (with_reducible refine (HBQ.out _ (by repeat (first | apply Frm.drew | apply Frm.drewN | exact Frm.refl _ _))).mono ?_)
          rintro ey w9 ⟨rfl, rfl⟩
          go_wp2
          rw [HQ.out]
          exact ⟨HFR1.out, .inl ⟨HDR1.out, rfl⟩⟩
    · have hd : X.drop i = [] := List.drop_eq_nil_of_le (by have := HN.out; omega)
      have HO2 := Lib.hid HO.out
      rw [hd] at HO2
      clear hd HO
      go_wp2
      rw [HQ.out]
      exact ⟨HFR.out, .inr ⟨v, t, HO2.out, rfl, HT.out⟩⟩
end Go.Proofs.Ytecfoomjpjcldaa
