/- Contract of Result of the document's mender. -/
import Derived.Test.YtecfoomjpjcldaaRmHear
import Derived.Deep.RegionHeld3
namespace Go.Proofs.Ytecfoomjpjcldaa
open Go.RowKit
set_option maxRecDepth 100000
theorem look_key {l : List (Nat × List Nat)} {k : Nat} {d : List Nat} (h : lookN l k = some d) : k ∈ l.map (·.1) := by
  induction l with
  | nil => cases h
  | cons x l ih =>
    obtain ⟨e, y⟩ := x
    simp only [lookN] at h
    by_cases he : e = k
    · simp [he]
    · rw [if_neg he] at h; simp only [List.map_cons, List.mem_cons]; exact .inr (ih h)
theorem look_few {l : List (Nat × List Nat)} {n : Nat} (h : ∀ i, i < n → lookN l i ≠ none) : n ≤ l.length := by
  have := pigeon (n := n) (l := l.map (·.1)) fun i hi => by
    cases hd : lookN l i with
    | none => exact absurd hd (h i hi)
    | some d => exact look_key hd
  simpa using this
theorem rmcov {P W A : Nat} {h : Nat → Bool} (hP : 0 < P) (h7 : P ≤ 7) : covN P W A ((List.range P).map h) = covN P W A (hrdL h) := covN_congr hP fun j hj => by
  rw [hrdL_at _ _ (by omega)]; simp [List.getD, hj]
def RrRel (w : World) (F : List Nat) (f : Nat → Option (List Nat)) (s4 : Value) (wr : World) : Prop :=
  ∃ (a : Option Addr) (k c : Nat) (X : List Ix), s4 = .slice a k c ∧ k = X.length ∧ Hid (its X = rowN f k) ∧ (∀ i, i < k → f i ≠ none) ∧ Hid (IOwn wr w.heap.size 55 F a c X) ∧ Hid (Frm [] w wr)
def RrEnd (w : World) (F : List Nat) (P W A : Nat) (h : Nat → Bool) (su : Nat) (f : Nat → Option (List Nat)) (e : Ending) (w' : World) : Prop :=
  ∃ (code : Nat) (a : Option Addr) (c : Nat) (X : List Ix), e = .returned (.tuple #[.slice a X.length c, .int .i64 (code : Nat)]) ∧ ResV P W A h su f code (its X) ∧ IL w' F a X ∧ Frm [] w w'
set_option maxHeartbeats 16000000 in
theorem rmresult_any {w : World} {B p hbk : Nat} {F : List Nat} {P W A : Nat} {h : Nat → Bool} {su : Nat} {l : List (Nat × List Nat)} (m : Rm w B p hbk F P W A h su l) (hl : l.length ≤ 16777216) (hF : ∀ x ∈ F, x < w.heap.size) :
    Calls Try.prog 31 #[.pointer (some ⟨p, 0, none⟩)] w (RrEnd w F P W A h su (lookN l)) := by
  obtain ⟨i0, hinf, hz0, hz1, hz2⟩ := info_parts infoItM
  obtain ⟨Q, hQ⟩ : ∃ Q, Q = RrEnd w F P W A h su (lookN l) := ⟨_, rfl⟩
  rw [← hQ]
  have HQ := Lib.hid hQ
  obtain ⟨q1, q2, q3, q4⟩ := m.quo
  obtain ⟨aI, nI, cI, XI, hv, hnI, hoI, hiI⟩ := m.box
  have HV := Lib.hid hv
  have HM := Lib.hid m
  have HLOW := Lib.hid hF
  have HINF := Lib.hid hinf
  have HNI := Lib.hid hnI
  have HOI := Lib.hid hoI
  have HII := Lib.hid hiI
  have hnI2 : nI ≤ 16777216 := by rw [hnI, ← its_length, hiI]; exact hl
  have N0 : ∀ y, Frm [] w y → y.cell? ⟨p, 0, none⟩ = some (.int .i64 (P : Nat)) := fun y hy => (hy.whole HV.out (by simp)).cell 0
  have N1 : ∀ y, Frm [] w y → y.cell? ⟨p, 1, none⟩ = some (.int .i64 (W : Nat)) := fun y hy => (hy.whole HV.out (by simp)).cell 1
  have N2 : ∀ y, Frm [] w y → y.cell? ⟨p, 2, none⟩ = some (.int .i64 (A : Nat)) := fun y hy => (hy.whole HV.out (by simp)).cell 2
  have N3 : ∀ y, Frm [] w y → y.cell? ⟨p, 3, none⟩ = some (.slice (some ⟨hbk, 0, none⟩) P P) := fun y hy => (hy.whole HV.out (by simp)).cell 3
  have HCO := Lib.hid (fun z (hz : Frm [] w z) => rcovered_any P W A (some ⟨hbk, 0, none⟩) P P ((List.range P).map h) z q1 q2 q4 q3 ((m.here hz).bin) (by simp))
  rw [rmcov (by omega) q4] at HCO
  unfold quV at HCO
  obtain ⟨b, hb⟩ : ∃ b, b = covN P W A (hrdL h) := ⟨_, rfl⟩
  rw [← hb] at HCO
  have HB := Lib.hid hb
  clear hQ m hF hinf hv hnI hoI hiI hb
  go_enter Try.func31, Try.ntmps31
  have hS0 := Frm.refl [] w
  go_wp2_with fail
  go_region_held3 (fun y => Frm [] w y) (repeat (first | assumption | apply Frm.drew | exact Frm.refl _ _)) (
    (go_at_call 29; (with_reducible refine (HCO.out _ (by repeat (first | assumption | apply Frm.drew | exact Frm.refl _ _))).mono ?_); rintro ex wz ⟨rfl, hfz⟩; have S1 : Frm [] w wz := Frm.trans (by repeat (first | assumption | apply Frm.drew | exact Frm.refl _ _)) hfz (by simp) (by simp); clear hfz))
  all_goals
    clear N0 N1 N2 N3 HCO hS0
  cases b with
  | false =>
    have HZ : Hid (∀ z, Frm [] w z → Q (.returned (.tuple #[.slice none 0 0, .int .i64 23])) z) := Lib.hid fun z hz => by rw [HQ.out]; exact ⟨23, none, 0, [], rfl, .inl ⟨HB.out.symm, rfl, rfl⟩, IL.nil _ _ _, hz⟩
    go_wp2
    exact HZ.out _ (by repeat (first | assumption | apply Frm.drew | exact Frm.refl _ _))
  | true =>
    have HR0 : Hid (RrRel wz F (lookN l) (.slice none 0 0) wz) := Lib.hid ⟨none, 0, 0, [], rfl, rfl, Lib.hid rfl, fun i hi => absurd hi (by omega), Lib.hid (IOwn.nil _ _ _ _), Lib.hid (Frm.refl _ _)⟩
    obtain ⟨N, hN⟩ : ∃ N, N = 16777217 := ⟨_, rfl⟩
    have HNN := Lib.hid hN
    have HS1 := Lib.hid S1
    clear hN S1
    simp only [Bool.not_true]
    go_wp2
    go_loopw [4] (fun s4 wr => RrRel wz F (lookN l) s4 wr) (fun s4 _ => N - lenM s4)
    case atStart => exact HR0.out
    case round =>
      clear HR0
      obtain ⟨a, k, c, X, rfl, hkX, HX, hall, HO, HFR⟩ := hrel
      have hk24 : k ≤ 16777216 := Nat.le_trans (look_few hall) hl
      have hwk : IntKind.u64.wrap (k : Int) = (k : Int) := by simp [IntKind.wrap, IntKind.bits, IntKind.signed]; omega
      have hfw : Frm [] w wr := HS1.out.trans HFR.out (U := []) (by simp) (by simp)
      have hvr := hfw.whole HV.out (by simp)
      have x5 : wr.cell? ⟨p, 5, none⟩ = some (.slice aI nI cI) := hvr.cell 5
      have x4 : wr.cell? ⟨p, 4, none⟩ = some (.int .u64 (su : Nat)) := hvr.cell 4
      have hoI := HOI.out.keep hfw (F' := p :: hbk :: F) (by simp) (fun x hx => .inl hx)
      have HFD := Lib.hid (rmfind_any aI nI cI XI k hoI.il HNI.out (by omega))
      rw [HII.out] at HFD
      have HALL := Lib.hid hall
      have HKX := Lib.hid hkX
      have HOI2 := Lib.hid hoI
      have HFW := Lib.hid hfw
      clear hall hkX hfw hvr hoI
      go_wp2_with fail
      (with_reducible refine HFD.out.mono ?_)
      rintro ex wy ⟨rfl, ⟨hno, rfl⟩ | ⟨t, ht, hte, hyes, rfl⟩⟩
      · have hrun : RunOf (lookN l) k := ⟨HALL.out, hno⟩
        have HRUN := Lib.hid hrun
        clear hno hrun HFD
        by_cases hks : k < su
        · have e1 : decide ((k : Int) < (su : Int)) = true := decide_eq_true (by omega)
          have e2 : decide (k < su) = true := decide_eq_true hks
          have HZ : Hid (∀ z, Frm [] wy z → Q (.returned (.tuple #[.slice none 0 0, .int .i64 22])) z) := Lib.hid fun z hz => by
            rw [HQ.out]
            exact ⟨22, none, 0, [], rfl, .inr ⟨HB.out.symm, k, HRUN.out, .inl ⟨hks, rfl, rfl⟩⟩, IL.nil _ _ _, HFW.out.trans hz (by simp) (by simp)⟩
          go_wp2
          exact HZ.out _ (by repeat (first | assumption | apply Frm.drew | exact Frm.refl _ _))
        · have e1 : decide ((k : Int) < (su : Int)) = false := decide_eq_false (by omega)
          have e2 : decide (k < su) = false := decide_eq_false hks
          have HZ : Hid (∀ z, Frm [] wy z → Q (.returned (.tuple #[.slice a k c, .int .i64 0])) z) := Lib.hid fun z hz => by
            rw [HQ.out]
            refine ⟨0, a, c, X, by rw [HKX.out]; rfl, .inr ⟨HB.out.symm, k, HRUN.out, .inr ⟨by omega, rfl, HX.out⟩⟩, (HO.out.keep hz (F' := F) (by simp) (fun x hx => .inl hx)).il, HFW.out.trans hz (by simp) (by simp)⟩
          go_wp2
          exact HZ.out _ (by repeat (first | assumption | apply Frm.drew | exact Frm.refl _ _))
      · have htX : t < XI.length := by rw [← HII.out, its_length] at ht; exact ht
        obtain ⟨bI, offI, hbI, y0, y1, hix⟩ := HOI2.out.il.at htX
        have hbw : Bytes w (XI.getD t default).a (XI.getD t default).t.2 := (HOI.out.ok (XI.getD t default) (by simp [htX])).bytes
        have hyt : (XI.getD t default).t = (k, (l.getD t (0, [])).2) := by
          rw [← its_getD htX, HII.out, ← hte]
        obtain ⟨d, hd⟩ : ∃ d, d = (l.getD t (0, [])).2 := ⟨_, rfl⟩
        rw [← hd] at hyes hyt
        obtain ⟨y, hy⟩ : ∃ y, y = XI.getD t default := ⟨_, rfl⟩
        rw [← hy] at y0 y1 hix hyt hbw
        obtain ⟨⟨e3, d3⟩, ad, cd⟩ := y
        simp only [Prod.mk.injEq] at hyt
        obtain ⟨rfl, rfl⟩ := hyt
        simp only at y0 y1 hbw
        have HBW := Lib.hid hbw
        obtain ⟨dn, hdn⟩ : ∃ dn, dn = d3.length := ⟨_, rfl⟩
        rw [← hdn] at y1
        have HDN := Lib.hid hdn
        have htn : (t : Int) < (nI : Int) := by have := HNI.out; omega
        have htn2 : t < nI := by have := HNI.out; omega
        have htneg : decide ((t : Int) < (0 : Int)) = false := decide_eq_false (by omega)
        have HYES := Lib.hid hyes
        have hfa : Frm [] wy (wy.alloc (.cells #[.int .u64 (e3 : Nat), .slice ad dn cd] 55)) := (Frm.refl _ _).alloc _
        have HOWA : Hid ((wy.alloc (.cells #[.int .u64 (e3 : Nat), .slice ad dn cd] 55)).ownsRow wz.heap.size 55 2 (.slice a e3 c) e3 (ic X)) := Lib.hid (by
          have := (HO.out.keep hfa (F' := F) (by simp) (fun x hx => .inl hx)).own
          rw [← HKX.out] at this; exact this)
        have HVA : Hid (ValsAt (wy.alloc (.cells #[.int .u64 (e3 : Nat), .slice ad dn cd] 55)) (some ⟨wy.heap.size, 0, none⟩) (ic [⟨(e3, d3), ad, cd⟩])) := Lib.hid (by rw [show ic [⟨(e3, d3), ad, cd⟩] = [.int .u64 (e3 : Nat), .slice ad dn cd] from by rw [HDN.out]; rfl]; exact vals2M _ _ _ _ _)
        have HBA : Hid (wz.heap.size ≤ (wy.alloc (.cells #[.int .u64 (e3 : Nat), .slice ad dn cd] 55)).heap.size) := Lib.hid (by have h1 := HFR.out.size; have := hfa.size; omega)
        have HFN : Hid (∀ a' c' w3, AppS (wy.alloc (.cells #[.int .u64 (e3 : Nat), .slice ad dn cd] 55)) w3 wz.heap.size 55 2 (.slice a e3 c) e3 1 (ic X) (ic [⟨(e3, d3), ad, cd⟩]) a' c' → RrRel wz F (lookN l) (.slice a' (e3 + 1) c') w3) := Lib.hid fun a' c' w3 happ => by
          have hlow : ∀ x ∈ F, x < (wy.alloc (.cells #[.int .u64 (e3 : Nat), .slice ad dn cd] 55)).heap.size := fun x hx => by have := HLOW.out x hx; have := HFW.out.size; have := hfa.size; omega
          have hok : IOk (wy.alloc (.cells #[.int .u64 (e3 : Nat), .slice ad dn cd] 55)) (blk a ++ F) [⟨(e3, d3), ad, cd⟩] := by
            intro y hy
            simp only [List.mem_singleton] at hy
            subst hy
            have h0 := hix.keep hfa (F' := p :: hbk :: F) (by simp) (fun x hx => .inl hx)
            refine ⟨h0.bytes, fun hne q hq hm => ?_, h0.nil, h0.num⟩
            rcases List.mem_append.1 hm with h2 | h2
            · have h3 := (HO.out.blk_lt _ h2).1
              have h4 : q.block < w.heap.size := by
                exact bytes_lt HBW.out hne q hq
              have := HS1.out.size
              omega
            · exact h0.away hne q hq (List.mem_cons_of_mem _ (List.mem_cons_of_mem _ h2))
          obtain ⟨g1, g2, g3, g4⟩ := (HO.out.keep hfa (F' := F) (by simp) (fun x hx => .inl hx)).app HKX.out hok rfl hlow happ
          refine ⟨a', e3 + 1, c', _, rfl, g4, Lib.hid ?_, fun i hi => ?_, Lib.hid g1, Lib.hid ((HFR.out.trans hfa (U := []) (by simp) (by simp)).trans g2 (by simp) (fun y hy => .inr (HO.out.blk_lt y hy).1))⟩
          · rw [rowN_succ, ← HX.out, HYES.out]; simp [its]
          · by_cases hik : i = e3
            · rw [hik, HYES.out]; simp
            · exact HALL.out i (by omega)
        subst hbI
        clear hyes hix hd hy hdn hte ht htX hfa HFD hbw
        go_wp2_with (at_builtin; refine wpList_appS rfl (.tmp 26) (.tmp 34) 49 rfl wz.heap.size 55 i0 (.agg #[.int .u64 0, .slice none 0 0]) 2 32 Try.underlying49 HINF.out hz0 rfl (by omega) hz1 hz2 (by omega) (.slice a e3 c) e3 (ic X) rfl HOWA.out (some ⟨wy.heap.size, 0, none⟩) 1 1 (ic [⟨(e3, d3), ad, cd⟩]) rfl HVA.out rfl (ic_one _) (fun h => by cases h) (by omega) HBA.out ?_; intro a' c' w3 happ; have HREL := Lib.hid (HFN.out a' c' w3 happ); clear happ)
        go_roundw
        case rel => exact HREL.out
        case measure => simp only [lenM]; have := HNN.out; omega
end Go.Proofs.Ytecfoomjpjcldaa
