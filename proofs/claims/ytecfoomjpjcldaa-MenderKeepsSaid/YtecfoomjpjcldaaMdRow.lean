/- Contract of row: the entries from 0 on, as long as each is there. -/
import Derived.Test.YtecfoomjpjcldaaMdJoin
namespace Go.Proofs.Ytecfoomjpjcldaa
open Go.RowKit
set_option maxRecDepth 100000

theorem vals2M (w : World) (u v : Value) (t : TypeId) (m : Nat × Nat) : ValsAt (w.alloc (.cells #[u, v] t m)) (some ⟨w.heap.size, 0, none⟩) [u, v] := by
  refine .inr ⟨_, _, rfl, fun i x hx => ?_⟩
  rw [cell_of_row _ w.heap.size _ #[u, v] t m (heap_alloc_new w _)]
  match i, hx with
  | 0, hx => simpa using hx
  | 1, hx => simpa using hx
  | i + 2, hx => simp at hx
theorem infoItM : (Try.prog.info? 55).map (fun i => (i.zero, i.size, i.bytes)) = some (some (.agg #[.int .u64 0, .slice none 0 0]), 2, 32) := by kernel_rfl
/-- The first m entries. -/
def rowN (f : Nat → Option (List Nat)) (m : Nat) : List (Nat × List Nat) := (List.range m).map fun i => (i, (f i).getD [])
theorem rowN_succ (f : Nat → Option (List Nat)) (m : Nat) : rowN f (m + 1) = rowN f m ++ [(m, (f m).getD [])] := by simp [rowN, List.range_succ]
theorem rowN_len (f : Nat → Option (List Nat)) (m : Nat) : (rowN f m).length = m := by simp [rowN]
/-- So many are there, from 0 on. -/
def RunOf (f : Nat → Option (List Nat)) (m : Nat) : Prop := (∀ i, i < m → f i ≠ none) ∧ f m = none
theorem RunOf.one {f : Nat → Option (List Nat)} {m n : Nat} (h : RunOf f m) (k : RunOf f n) : m = n := by
  rcases Nat.lt_trichotomy m n with h1 | h1 | h1
  · exact absurd h.2 (k.1 m h1)
  · exact h1
  · exact absurd k.2 (h.1 n h1)
/-- What row answers. -/
def RowEnd (w : World) (F : List Nat) (f : Nat → Option (List Nat)) (e : Ending) (w' : World) : Prop :=
  ∃ a c X, RunOf f X.length ∧ its X = rowN f X.length ∧ e = .returned (.slice a X.length c) ∧ IOwn w' w.heap.size 55 F a c X ∧ Frm [] w w'
def lenM (v : Value) : Nat := match v with | .slice _ n _ => n | _ => 0
def RwRel (w : World) (F : List Nat) (f : Nat → Option (List Nat)) (s3 : Value) (wr : World) : Prop :=
  ∃ (a : Option Addr) (k c : Nat) (X : List Ix), s3 = .slice a k c ∧ k = X.length ∧ Hid (its X = rowN f k) ∧ (∀ i, i < k → f i ≠ none) ∧ Hid (IOwn wr w.heap.size 55 F a c X) ∧ Hid (Frm [] w wr)

set_option maxHeartbeats 8000000 in
theorem mrow_any {w : World} {F : List Nat} {v : Value} {t : Tn} (h : TnAt w F v t) (hfit : ∀ k d, atT t k = some d → d.length ≤ 140737488355328) (hs : (keysT t).length ≤ 16777216) (hF : ∀ x ∈ F, x < w.heap.size) :
    Calls Try.prog 52 #[v] w (RowEnd w F (atT t)) := by
  obtain ⟨i0, hinf, hz0, hz1, hz2⟩ := info_parts infoItM
  obtain ⟨Q, hQ⟩ : ∃ Q, Q = RowEnd w F (atT t) := ⟨_, rfl⟩
  rw [← hQ]
  have HQ := Lib.hid hQ
  have HT := Lib.hid h
  have HFI := Lib.hid hfit
  have HLOW := Lib.hid hF
  have HFEW := Lib.hid (fun n h => Nat.le_trans (at_few (t := t) (n := n) h) hs)
  have HR0 : Hid (RwRel w F (atT t) (.slice none 0 0) w) := Lib.hid ⟨none, 0, 0, [], rfl, rfl, Lib.hid rfl, fun i hi => absurd hi (by omega), Lib.hid (IOwn.nil _ _ _ _), Lib.hid (Frm.refl _ _)⟩
  obtain ⟨N, hN⟩ : ∃ N, N = 16777217 := ⟨_, rfl⟩
  have HNN := Lib.hid hN
  have HINF := Lib.hid hinf
  clear h hfit hF hQ hs hN hinf
  go_enter Try.func52, Try.ntmps52
  go_wp2
  go_loopw [3] (fun s3 wr => RwRel w F (atT t) s3 wr) (fun s3 _ => N - lenM s3)
  case atStart => exact HR0.out
  case round =>
    clear HR0
    obtain ⟨a, k, c, X, rfl, hkX, HX, hall, HO, HFR⟩ := hrel
    have hk40 := HFEW.out k hall
    have hwk : IntKind.u64.wrap (k : Int) = (k : Int) := by simp [IntKind.wrap, IntKind.bits, IntKind.signed]; omega
    have HALL := Lib.hid hall
    have HKX := Lib.hid hkX
    have HFI1 := Lib.hid (mfind_any k (HT.out.keep HFR.out (F' := F) (by simp) (fun x hx => .inl hx)) (by omega))
    clear hall hkX
    go_wp2_with fail
    (with_reducible refine HFI1.out.mono ?_)
    rintro ex wz ⟨rfl, ⟨hno, rfl⟩ | ⟨d, a2, c2, hyes, rfl, hix2⟩⟩
    · have HE : Hid (∀ z, Frm [] wz z → Q (.returned (.slice a k c)) z) := Lib.hid (fun z hz => by
        rw [HQ.out]
        refine ⟨a, c, X, by rw [← HKX.out]; exact ⟨HALL.out, hno⟩, by rw [← HKX.out]; exact HX.out, by rw [HKX.out], HO.out.keep hz (by simp) (fun y hy => .inl hy), HFR.out.trans hz (by simp) (by simp)⟩)
      clear hno HFI1 hwk
      go_wp2
      exact HE.out _ (by repeat (first | apply Frm.drew | apply Frm.drewN | exact Frm.refl _ _))
    · have hfd := HFI.out k d hyes
      have HCL := Lib.hid (fun (z : World) (hz : Frm [] wz z) => clone_any a2 d.length c2 d z (hz.bytes' hix2.bytes (by simp)) rfl hix2.nil hfd)
      have H8 := Lib.hid hix2.bytes.1
      have HYES := Lib.hid hyes
      clear hyes hix2 hfd HFI1
      go_wp2_with fail
      (with_reducible refine (HCL.out _ (by repeat (first | apply Frm.drew | apply Frm.drewN | exact Frm.refl _ _))).mono ?_)
      rintro e w2 ⟨ca, cc, rfl, hown, hf2⟩
      obtain ⟨dn, hdn⟩ : ∃ dn, dn = d.length := ⟨_, rfl⟩
      rw [← hdn] at hown ⊢
      have HDN := Lib.hid hdn
      have HOC := Lib.hid hown
      have HF2 := Lib.hid hf2
      have HV : Hid (∀ z, Frm [] w2 z → IOwn z w.heap.size 55 F a c X) := Lib.hid fun z hz => HO.out.keep (hf2.trans hz (U := []) (by simp) (by simp)) (by simp) (fun y hy => .inl hy)
      clear hown hf2 HCL hdn
      have hfin : Hid (∀ a' c' w3, AppS (w2.alloc (.cells #[.int .u64 (k : Nat), .slice ca dn cc] 55)) w3 w.heap.size 55 2 (.slice a k c) k 1 (ic X) (ic [⟨(k, d), ca, cc⟩]) a' c' → RwRel w F (atT t) (.slice a' (k + 1) c') w3) := Lib.hid fun a' c' w3 happ => by
        have hfa : Frm [] w2 (w2.alloc (.cells #[.int .u64 (k : Nat), .slice ca dn cc] 55)) := (Frm.refl _ _).alloc _
        have hob := bytes_of_own (by have := HOC.out; rw [HDN.out] at this; exact this) H8.out
        have hcb : ∀ q, ca = some q → wz.heap.size ≤ q.block := fun q hq => (World.ownsRow.lt HOC.out q.block (by rw [hq]; rfl)).1
        have hblk := (HO.out.blk_lt)
        have hok : IOk (w2.alloc (.cells #[.int .u64 (k : Nat), .slice ca dn cc] 55)) (blk a ++ F) [⟨(k, d), ca, cc⟩] := by
          intro y hy
          simp only [List.mem_singleton] at hy
          subst hy
          refine ⟨hfa.bytes' hob.2.1 (by simp), fun _ q hq hm => ?_, hob.2.2, by show k < 18446744073709551616; omega⟩
          have h1 := hcb q hq
          rcases List.mem_append.1 hm with h2 | h2
          · have := (hblk _ h2).2; omega
          · have := HLOW.out _ h2; have := HFR.out.size; omega
        obtain ⟨r1, r2, r3, r4⟩ := (HV.out _ hfa).app HKX.out hok rfl (fun y hy => by have := HLOW.out y hy; have := HFR.out.size; have := HF2.out.size; have := hfa.size; omega) happ
        refine ⟨a', k + 1, c', X ++ [⟨(k, d), ca, cc⟩], rfl, r4, Lib.hid ?_, fun i hi => ?_, Lib.hid r1, Lib.hid (((HFR.out.trans HF2.out (U := []) (by simp) (by simp)).trans hfa (U := []) (by simp) (by simp)).trans r2 (by simp) (fun y hy => .inr (hblk y hy).1))⟩
        · rw [rowN_succ, ← HX.out, HYES.out]; simp [its]
        · by_cases hik : i = k
          · rw [hik, HYES.out]; simp
          · exact HALL.out i (by omega)
      have HOWA : Hid ((w2.alloc (.cells #[.int .u64 (k : Nat), .slice ca dn cc] 55)).ownsRow w.heap.size 55 2 (.slice a k c) k (ic X)) := Lib.hid (by have := (HV.out _ ((Frm.refl [] w2).alloc (.cells #[.int .u64 (k : Nat), .slice ca dn cc] 55))).own; rw [← HKX.out] at this; exact this)
      have HVA : Hid (ValsAt (w2.alloc (.cells #[.int .u64 (k : Nat), .slice ca dn cc] 55)) (some ⟨w2.heap.size, 0, none⟩) (ic [⟨(k, d), ca, cc⟩])) := Lib.hid (by rw [show ic [⟨(k, d), ca, cc⟩] = [.int .u64 (k : Nat), .slice ca dn cc] from by rw [HDN.out]; rfl]; exact vals2M _ _ _ _ _)
      have HBA : Hid (w.heap.size ≤ (w2.alloc (.cells #[.int .u64 (k : Nat), .slice ca dn cc] 55)).heap.size) := Lib.hid (by have h1 := HFR.out.size; have h2 := HF2.out.size; simp; omega)
      go_wp2_with (at_builtin; refine wpList_appS rfl (.tmp 19) (.tmp 24) 49 rfl w.heap.size 55 i0 (.agg #[.int .u64 0, .slice none 0 0]) 2 32 Try.underlying49 HINF.out hz0 rfl (by omega) hz1 hz2 (by omega) (.slice a k c) k (ic X) rfl HOWA.out (some ⟨w2.heap.size, 0, none⟩) 1 1 (ic [⟨(k, d), ca, cc⟩]) rfl HVA.out rfl (ic_one _) (fun h => by cases h) (by omega) HBA.out ?_; intro a' c' w3 happ; have HREL := Lib.hid (hfin.out a' c' w3 happ); clear happ)
      go_roundw
      case rel => exact HREL.out
      case measure => simp only [lenM]; have := HNN.out; omega
end Go.Proofs.Ytecfoomjpjcldaa
