/- Contracts and mathematics that the proofs of this seat stand on: CqWith, CqLeft, CqMath. -/
import Derived.Test.YtghadpihmhaepaaKB
import Derived.Deep.RegionHeld
/- Contract of the program's with. -/
namespace Go.Proofs.Ytghadpihmhaepaa
open Go.RowKit
set_option maxRecDepth 100000

/-- What a slice that came in, or was made, has room for. -/
def CapOk (a : Option Addr) (n cap : Nat) : Prop := (a = none → cap = 0) ∧ n ≤ cap ∧ cap ≤ 9223372036854775807
/-- What Add, Remove answer, all of it. -/
def GotX (w : World) (S : Nat → Prop) (m : Nat) (e : Ending) (w' : World) : Prop := ∃ (a : Option Addr) (k c : Nat) (out : List Rg), e = .returned (.slice a k c) ∧ Hid (k = out.length) ∧ Hid (Rr w' a out ∧ CapOk a out.length c ∧ (∀ q, a = some q → w.heap.size ≤ q.block)) ∧ Hid (Rt out ∧ (∀ x, Mem out x ↔ S x) ∧ out.length ≤ m) ∧ Hid (Frm [] w w')
theorem Got.x {w w' : World} {S : Nat → Prop} {m : Nat} {e : Ending} (h : Got w S m e w') : GotX w S m e w' := by
  obtain ⟨out, ⟨a, c, rfl, ho, hf⟩, h2, h3, h4, h5⟩ := h
  have hr := ho.rr h3
  refine ⟨a, out.length, c, out, rfl, rfl, ⟨hr.1, ⟨hr.2.1, hr.2.2.1, by have := hr.2.2.2; unfold maxLen at this; omega⟩, fun q hq => (ho.lt q hq).1⟩, ⟨h2, h4, h5⟩, hf⟩
theorem own_from {w : World} {base base' : Nat} {e : TypeId} {size : Nat} {v : Value} {n : Nat} {xs : List Value} (h : w.ownsRow base e size v n xs) (hb : base' ≤ base) : w.ownsRow base' e size v n xs := by
  obtain ⟨o1, o2⟩ := h
  refine ⟨o1, ?_⟩
  rcases o2 with o2 | ⟨g, cap, cur, hv, hb, r⟩
  · exact .inl o2
  · exact .inr ⟨g, cap, cur, hv, by omega, r⟩
theorem size_he (w : World) : (Go.sizeOf 55).run Try.prog w = .ok 2 w := by kernel_rfl
theorem run_cutH_h (w : World) (a : Option Addr) (n cap hi : Nat) (h : Int) (hh : h = (hi : Nat)) (h2 : hi ≤ cap) :
    (Instr.slice 26 (.slice a n cap) none (some (.int .i64 h)) none).run Try.prog w = .ok (.slice (cutR a cap 0) hi cap) w := by
  subst hh
  have ht' : Try.prog.underlying 26 = some (.slice (Try.prog.elem 26)) := by simp [Program.elem, Try.underlying26]
  have he : Try.prog.elem 26 = 55 := by simp [Program.elem, Try.underlying26]
  rw [run_slice_h w _ _ _ _ ht' _ _ (by omega) (by omega), he, size_he]
  simp [Result.andThen, sliced, cutR]
theorem run_cutH_l (w : World) (a : Option Addr) (n cap lo : Nat) (l : Int) (hl : l = (lo : Nat)) (h1 : lo ≤ n) :
    (Instr.slice 26 (.slice a n cap) (some (.int .i64 l)) none none).run Try.prog w = .ok (.slice (cutR a cap lo) (n - lo) (cap - lo)) w := by
  subst hl
  have ht' : Try.prog.underlying 26 = some (.slice (Try.prog.elem 26)) := by simp [Program.elem, Try.underlying26]
  have he : Try.prog.elem 26 = 55 := by simp [Program.elem, Try.underlying26]
  rw [run_slice_l w _ _ _ _ ht' _ _ (by omega) (by omega), he, size_he]
  simp [Result.andThen, sliced, cutR]
theorem cutR_some {a : Option Addr} {cap lo : Nat} {q : Addr} (h : cutR a cap lo = some q) : ∃ r, a = some r ∧ q.block = r.block := by
  unfold cutR at h
  split at h
  · exact ⟨q, h, rfl⟩
  · cases a with
    | none => simp at h
    | some r => simp at h; exact ⟨r, rfl, by rw [← h]; unfold Addr.add; split <;> rfl⟩
theorem HxL.cut {w : World} {F : List Nat} {a : Option Addr} {X : List Hx} {cap : Nat} (h : HxL w F a X) (hc : X.length ≤ cap) (lo : Nat) : HxL w F (cutR a cap lo) (X.drop lo) := by
  refine ⟨?_, h.ok.sub (fun x hx => List.mem_of_mem_drop hx), fun hne q hq => ?_⟩
  · rw [hxc_drop]
    rcases h.vals with h' | ⟨b, off, rfl, hcl⟩
    · exact .inl (by rw [h']; simp)
    · unfold cutR
      split
      · rename_i he
        refine .inl ?_
        have : (hxc X).length ≤ lo * 2 := by rw [hxc_length]; omega
        rw [List.drop_eq_nil_of_le this]
      · refine .inr ⟨b, off + lo * 2, by simp [addr_add], fun i u hu => ?_⟩
        rw [List.getElem?_drop] at hu
        have := hcl _ _ hu
        rwa [← Nat.add_assoc] at this
  · obtain ⟨r, hr, hb⟩ := cutR_some hq
    rw [hb]
    exact h.away (by rintro rfl; simp at hne) r hr
theorem cqcat_lit {W : World} {F : List Nat} {sA sK sB : HxSl} (hA : HxSlIn W F sA) (hK : HxSlIn W F sK) (hB : HxSlIn W F sB) (hF : ∀ x ∈ F, x < W.heap.size) (hfit : sA.l.length + sK.l.length + sB.l.length ≤ 100000) :
    Calls Try.prog 70 #[.slice (some ⟨W.heap.size, 0, none⟩) 3 3] (W.alloc (.cells #[.slice sA.a sA.l.length sA.cap, .slice sK.a sK.l.length sK.cap, .slice sB.a sB.l.length sB.cap] 26)).drew fun e w' => ∃ a' cap', e = .returned (.slice a' (sA.l ++ (sK.l ++ sB.l)).length cap') ∧ HxOwn w' W.heap.size 55 F a' cap' (sA.l ++ (sK.l ++ sB.l)) ∧ Frm [] W w' := by
  have hf : Frm [] W (W.alloc (.cells #[.slice sA.a sA.l.length sA.cap, .slice sK.a sK.l.length sK.cap, .slice sB.a sB.l.length sB.cap] 26)).drew := ((Frm.refl _ _).alloc _).drew
  have hw : Whole (W.alloc (.cells #[.slice sA.a sA.l.length sA.cap, .slice sK.a sK.l.length sK.cap, .slice sB.a sB.l.length sB.cap] 26)).drew W.heap.size 26 #[.slice sA.a sA.l.length sA.cap, .slice sK.a sK.l.length sK.cap, .slice sB.a sB.l.length sB.cap] := (Whole.made W _ _).drew
  have hin : HxSlsIn (W.alloc (.cells #[.slice sA.a sA.l.length sA.cap, .slice sK.a sK.l.length sK.cap, .slice sB.a sB.l.length sB.cap] 26)).drew F W.heap.size [sA, sK, sB] := by
    intro k hk
    simp at hk
    have hc := hw.cell k
    rcases k with _ | _ | _ | k
    · exact ⟨hc, hA.keep hf⟩
    · exact ⟨hc, hK.keep hf⟩
    · exact ⟨hc, hB.keep hf⟩
    · omega
  have e : hxall [sA, sK, sB] = sA.l ++ (sK.l ++ sB.l) := by simp [hxall]
  refine (cqconcat_any (n := 3) hin (fun x hx => Nat.lt_of_lt_of_le (hF x hx) hf.size) rfl (by decide) (by rw [e]; simp; omega)).mono fun x w' h => ?_
  rw [e] at h
  obtain ⟨a, c, rfl, ho, hf'⟩ := h
  exact ⟨a, c, rfl, ⟨own_from ho.own hf.size, ho.ok, ho.away⟩, hf.trans hf' (by simp) (by simp)⟩
/-- What with answers. -/
def WithEnd (w : World) (F : List Nat) (Y : List Hx) (p : Ps) (e : Ending) (w' : World) : Prop := ∃ (R : List Rg) (Z : List Hx) (a : Option Addr) (zn c : Nat), e = .returned (.slice a zn c) ∧ Hid (zn = Z.length) ∧ Hid (hels Z = holdH p.l R (hels Y) ∧ Z.length ≤ Y.length + 1) ∧ Hid (Rt R ∧ (∀ x, Mem R x ↔ Mem (ofH (hels Y) p.l) x ∨ x = p.e) ∧ R.length ≤ (ofH (hels Y) p.l).length + 1) ∧ Hid (HxL w' F a Z ∧ CapOk a Z.length c) ∧ Hid (Frm [] w w')
theorem cqcat_one {W : World} {F : List Nat} {sA sB : HxSl} {x : Hx} (hA : HxSlIn W F sA) (hB : HxSlIn W F sB) (hx : HxOk W F x) (hF : ∀ x ∈ F, x < W.heap.size) {nA nB nx : Nat} (hnA : nA = sA.l.length) (hnB : nB = sB.l.length) (hnx : nx = x.t.2.length) (hfit : sA.l.length + 1 + sB.l.length ≤ 100000) :
    Calls Try.prog 70 #[.slice (some ⟨W.heap.size + 1, 0, none⟩) 3 3] ((W.alloc (.cells #[.int .u64 (x.t.1 : Nat), .slice x.a nx x.c] 55)).alloc (.cells #[.slice sA.a nA sA.cap, .slice (some ⟨W.heap.size, 0, none⟩) 1 1, .slice sB.a nB sB.cap] 26)).drew fun e w' => ∃ a' cap', e = .returned (.slice a' (sA.l ++ ([x] ++ sB.l)).length cap') ∧ HxOwn w' W.heap.size 55 F a' cap' (sA.l ++ ([x] ++ sB.l)) ∧ Frm [] W w' := by
  subst hnA hnB hnx
  have hf : Frm [] W (W.alloc (.cells #[.int .u64 (x.t.1 : Nat), .slice x.a x.t.2.length x.c] 55)) := (Frm.refl _ _).alloc _
  have hr : HxL (W.alloc (.cells #[.int .u64 (x.t.1 : Nat), .slice x.a x.t.2.length x.c] 55)) F (some ⟨W.heap.size, 0, none⟩) [x] := by
    refine ⟨hxvals_one W x _, fun y hy => ?_, fun _ q hq hm => ?_⟩
    · simp only [List.mem_singleton] at hy
      subst hy
      exact hx.keep hf (by simp) (fun x hx => .inl hx)
    · cases hq
      have := hF _ hm
      simp at this
  have h := cqcat_lit (F := F) (sK := ⟨some ⟨W.heap.size, 0, none⟩, 1, [x]⟩) (hA.keep hf) ⟨hr, fun h => by simp at h, by simp, by simp⟩ (hB.keep hf) (fun x hx => Nat.lt_of_lt_of_le (hF x hx) hf.size) (by simpa using hfit)
  have e : (W.alloc (.cells #[.int .u64 (x.t.1 : Nat), .slice x.a x.t.2.length x.c] 55)).heap.size = W.heap.size + 1 := by simp
  rw [e] at h
  exact h.mono fun _ w' ⟨a, c, h1, h2, h3⟩ => ⟨a, c, h1, ⟨own_from h2.own (by omega), h2.ok, h2.away⟩, hf.trans h3 (by simp) (by simp)⟩
theorem atH_hold {X : List Hx} {led i : Nat} {b : Bool} (h : AtH X led i b) (hs : Srt (hels X)) (x : Hx) (hx : x.t.1 = led) (hne : x.t.2 ≠ []) : hels (X.take i ++ ([x] ++ X.drop (if b then i + 1 else i))) = holdH led x.t.2 (hels X) := by
  have key : ∀ (Z : List Hx), (∀ z ∈ Z, ∃ t, t < X.length ∧ z = X.getD t default) → True := fun _ _ => trivial
  have tk : ∀ z ∈ X.take i, z.t.1 < led := fun z hz => by
    obtain ⟨t, ht, rfl⟩ := List.mem_iff_getElem.1 hz
    rw [List.length_take] at ht
    have := h.low t (by omega)
    unfold keyX at this
    rw [List.getElem_take]
    simpa [show t < X.length by omega] using this
  have dr : ∀ z ∈ X.drop i, led ≤ z.t.1 := fun z hz => by
    obtain ⟨t, ht, rfl⟩ := List.mem_iff_getElem.1 hz
    rw [List.length_drop] at ht
    have := h.high (i + t) (by omega) (by omega)
    unfold keyX at this
    rw [List.getElem_drop]
    simpa [show i + t < X.length by omega] using this
  have dr2 : ∀ z ∈ X.drop (if b then i + 1 else i), led < z.t.1 := fun z hz => by
    obtain ⟨t, ht, rfl⟩ := List.mem_iff_getElem.1 hz
    rw [List.length_drop] at ht
    rw [List.getElem_drop]
    cases b with
    | true =>
      obtain ⟨h1, h2⟩ := h.is.1 rfl
      simp only [if_true] at ht ⊢
      have := srt_lt hs (i := i) (j := i + 1 + t) (by omega) (by omega)
      rw [h2] at this
      unfold keyX at this
      simpa [show i + 1 + t < X.length by omega] using this
    | false =>
      simp only [Bool.false_eq_true, if_false] at ht ⊢
      have h1 := h.high (i + t) (by omega) (by omega)
      have h2 : ¬ keyX X (i + t) = led := fun h3 => by
        by_cases h0 : t = 0
        · subst h0
          exact absurd (h.is.2 ⟨by omega, h3⟩) (by simp)
        · have h4 := srt_lt hs (i := i) (j := i + t) (by omega) (by omega)
          have h5 := h.high i (Nat.le_refl _) (by omega)
          omega
      unfold keyX at h1 h2
      have e : (X.getD (i + t) default) = X[i + t]'(by omega) := by simp [show i + t < X.length by omega]
      rw [e] at h1 h2
      omega
  have mid : ∀ z ∈ X.take (if b then i + 1 else i), ¬ led < z.t.1 := fun z hz => by
    obtain ⟨t, ht, rfl⟩ := List.mem_iff_getElem.1 hz
    rw [List.length_take] at ht
    rw [List.getElem_take]
    have e : (X.getD t default) = X[t]'(by omega) := by simp [show t < X.length by omega]
    cases b with
    | true =>
      obtain ⟨h1, h2⟩ := h.is.1 rfl
      simp only [if_true] at ht
      by_cases h0 : t = i
      · subst h0
        unfold keyX at h2
        rw [e] at h2
        omega
      · have := h.low t (by omega)
        unfold keyX at this
        rw [e] at this
        omega
    | false =>
      simp only [Bool.false_eq_true, if_false] at ht
      have := h.low t (by omega)
      unfold keyX at this
      rw [e] at this
      omega
  have f1 : X.filter (fun z => decide (z.t.1 < led)) = X.take i := by
    conv => lhs; rw [← List.take_append_drop i X]
    rw [List.filter_append, filter_all (fun z hz => by simpa using tk z hz), filter_nil (fun z hz => by have := dr z hz; simp; omega), List.append_nil]
  have f2 : X.filter (fun z => decide (led < z.t.1)) = X.drop (if b then i + 1 else i) := by
    conv => lhs; rw [← List.take_append_drop (if b then i + 1 else i) X]
    rw [List.filter_append, filter_nil (p := fun z : Hx => decide (led < z.t.1)) (fun z hz => by have := mid z hz; simp; omega), filter_all (fun z hz => by simpa using dr2 z hz), List.nil_append]
  unfold holdH
  rw [if_neg hne, ← hels_filter X (fun h => decide (h.1 < led)), ← hels_filter X (fun h => decide (led < h.1)), f1, f2, hels_append, hels_append, List.append_assoc]
  congr 2
  show [x.t] = _
  rw [← hx]
set_option maxHeartbeats 8000000 in
theorem cqwith_any (a : Option Addr) (n cap : Nat) (F : List Nat) (Y : List Hx) (p : Ps) (w : World) (h : HxL w F a Y) (hs : Srt (hels Y)) (hn : n = Y.length) (hsz : n ≤ 1000) (hc : CapOk a n cap) (hr : RgsOk Y) (hF : ∀ x ∈ F, x < w.heap.size) (hpl : p.l < 18446744073709551616) (hpe : p.e + 1 < 18446744073709551616) :
    Calls Try.prog 36 #[.slice a n cap, p.val] w (WithEnd w F Y p) := by
  obtain ⟨w1, hw1⟩ : ∃ w1, w1 = w.alloc (.cells #[.int .u64 (p.l : Nat), .int .u64 (p.e : Nat)] 25) := ⟨_, rfl⟩
  obtain ⟨g, hg⟩ : ∃ g, g = w.heap.size := ⟨_, rfl⟩
  have F1 : Hid (Frm [] w w1) := Lib.hid (by rw [hw1]; exact (Frm.refl _ _).alloc _)
  have B1 : Hid (Whole w1 g 25 #[.int .u64 (p.l : Nat), .int .u64 (p.e : Nat)]) := Lib.hid (by rw [hw1, hg]; exact Whole.made _ _ _)
  have FIND := Lib.hid (fun z (hz : Frm [] w z) => cqfind_any (cap := cap) p.l (h.sub hz) hs hn (by omega))
  have OF := Lib.hid (fun z (hz : Frm [] w z) => cqof_any (cap := cap) p.l (h.sub hz) hs hn (by omega))
  have ADD : Hid (∀ (z : World) (ar : Option Addr) (cr : Nat), Rr z ar (ofH (hels Y) p.l) → CapOk ar (ofH (hels Y) p.l).length cr → Calls Try.prog 69 #[.slice ar (ofH (hels Y) p.l).length cr, .agg #[.int .u64 (p.e : Nat), .int .u64 ((p.e + 1 : Nat) : Int)]] z (GotX z (fun x => Mem (ofH (hels Y) p.l) x ∨ (p.e ≤ x ∧ x < p.e + 1)) ((ofH (hels Y) p.l).length + 1))) := Lib.hid (fun z ar cr hz hcr => (add_some hz (ofH_ok hr _).2 rfl hcr.2.1 hcr.2.2 hcr.1 (by have := (ofH_ok hr p.l).1; omega) (by omega) hpe).mono fun e w' h => h.x)
  have HH := Lib.hid h
  have HN := Lib.hid hn; clear hn
  have HC := Lib.hid hc; clear hc
  have HF0 := Lib.hid hF; clear hF
  have HOLD := Lib.hid (fun (i : Nat) (b : Bool) (x : Hx) (ha : AtH Y p.l i b) (hx : x.t.1 = p.l) (hne : x.t.2 ≠ []) => atH_hold ha hs x hx hne)
  have PL := Lib.hid hpl; clear hpl
  clear hr hs h
  obtain ⟨Q, hQ⟩ : ∃ Q, Q = WithEnd w F Y p := ⟨_, rfl⟩
  rw [← hQ]
  have HQ := Lib.hid hQ; clear hQ
  obtain ⟨e1, he1⟩ : ∃ e1, e1 = p.e + 1 := ⟨_, rfl⟩
  rw [← he1] at ADD hpe
  have E1 := Lib.hid he1
  have a1 : (p.e : Int) + 1 = (e1 : Int) := by omega
  have a2 : IntKind.u64.wrap (e1 : Int) = (e1 : Int) := by simp [IntKind.wrap, IntKind.bits, IntKind.signed]; omega
  have a3 : IntKind.u64.wrap ((p.e : Int) + 1) = (e1 : Int) := by rw [a1]; exact a2
  clear he1
  obtain ⟨R0, hR0⟩ : ∃ R0, R0 = ofH (hels Y) p.l := ⟨_, rfl⟩
  rw [← hR0] at OF ADD
  have HR0 := Lib.hid hR0; clear hR0
  obtain ⟨pl, pe⟩ := p
  unfold Ps.val
  unfold FindsH at FIND
  unfold RsEnd at OF
  simp only at hw1 B1 FIND OF ADD HOLD PL E1 a1 a3 HQ HR0 ⊢
  have HW1 := Lib.hid hw1; clear hw1
  have r0 : ∀ z, Frm [] w1 z → z.cell? ⟨g, 0, none⟩ = some (.int .u64 (pl : Nat)) := fun z hz => (hz.whole B1.out (by simp)).cell 0
  have r1 : ∀ z, Frm [] w1 z → z.cell? ⟨g, 1, none⟩ = some (.int .u64 (pe : Nat)) := fun z hz => (hz.whole B1.out (by simp)).cell 1
  have x0 := r0 _ (Frm.refl _ _)
  go_enter Try.func36, Try.ntmps36
  go_wp2_with fail
  rw [← HW1.out, ← hg]
  have HG := Lib.hid hg; clear hg
  (with_reducible refine (FIND.out _ F1.out).mono ?_)
  rintro e w2 ⟨i, b, rfl, hat, hf2⟩
  clear x0
  have AT := Lib.hid hat
  have F2 := Lib.hid hf2
  have iN : i ≤ n := by have := hat.le; have := HN.out; omega
  have iB : b = true → i < n := fun hb => by have := (hat.is.1 hb).1; have := HN.out; omega
  clear hat hf2
  obtain ⟨bh, hbh⟩ : ∃ bh, bh = if b then i + 1 else i := ⟨_, rfl⟩
  have BH := Lib.hid hbh
  have bN : bh ≤ n := by
    rw [hbh]; split
    · have := iB (by assumption); omega
    · exact iN
  have ib : i ≤ bh := by rw [hbh]; split <;> omega
  have SUB : Hid (∀ z, Frm [] w2 z → Frm [] w z) := Lib.hid (fun z hz => F1.out.trans (F2.out.trans hz (U := []) (by simp) (by simp)) (by simp) (by simp))
  have cA := fun w => run_cutH_h w a n cap i (i : Int) rfl (by have := HC.out.2.1; omega)
  have cB := fun w => run_cutH_l w a n cap bh (bh : Int) rfl bN
  obtain ⟨aA, haA⟩ : ∃ aA, aA = cutR a cap 0 := ⟨_, rfl⟩
  obtain ⟨aB, haB⟩ : ∃ aB, aB = cutR a cap bh := ⟨_, rfl⟩
  obtain ⟨nB, hnB⟩ : ∃ nB, nB = n - bh := ⟨_, rfl⟩
  obtain ⟨cB', hcB'⟩ : ∃ cB', cB' = cap - bh := ⟨_, rfl⟩
  rw [← haA] at cA
  rw [← haB, ← hnB, ← hcB'] at cB
  have SA : Hid (∀ z, Frm [] w z → HxSlIn z F ⟨aA, cap, Y.take i⟩) := Lib.hid (fun z hz => by
    have hk := (HH.out.sub hz)
    refine ⟨?_, fun h => ?_, ?_, HC.out.2.2⟩
    · show HxL z F aA (Y.take i)
      rw [haA]
      have := (hk.cut (cap := cap) (by have := HN.out; have := HC.out.2.1; omega) 0).take i
      rwa [List.drop_zero] at this
    · have h' : cutR a cap 0 = none := by rw [← haA]; exact h
      have := cutR_none HC.out.1 h'; show cap = 0; omega
    · show (Y.take i).length ≤ cap
      have := HC.out.2.1
      rw [List.length_take]; omega)
  have SB : Hid (∀ z, Frm [] w z → HxSlIn z F ⟨aB, cB', Y.drop bh⟩) := Lib.hid (fun z hz => by
    have hk := (HH.out.sub hz)
    have hcc := HC.out
    have hnn := HN.out
    have h1 := hcc.2.1
    have h2 := hcc.2.2
    refine ⟨?_, fun h => ?_, ?_, by show cB' ≤ _; omega⟩
    · show HxL z F aB (Y.drop bh)
      rw [haB]
      exact hk.cut (cap := cap) (by omega) bh
    · have h' : cutR a cap bh = none := by rw [← haB]; exact h
      have := cutR_none hcc.1 h'; show cB' = 0; omega
    · show (Y.drop bh).length ≤ cB'
      rw [List.length_drop]; omega)
  have NA : Hid (i = (Y.take i).length) := Lib.hid (by rw [List.length_take]; have := HN.out; omega)
  have NB : Hid (nB = (Y.drop bh).length) := Lib.hid (by rw [List.length_drop]; have := HN.out; omega)
  have LZ : Hid (∀ x : Hx, (Y.take i ++ ([x] ++ Y.drop bh)).length ≤ Y.length + 1) := Lib.hid (fun x => by
    have := HN.out
    simp only [List.length_append, List.length_take, List.length_drop, List.length_cons, List.length_nil]; omega)
  have FIT : Hid ((Y.take i).length + 1 + (Y.drop bh).length ≤ 100000) := Lib.hid (by
    have := HN.out
    simp only [List.length_take, List.length_drop]; omega)
  have HOLD2 : Hid (∀ x : Hx, x.t.1 = pl → x.t.2 ≠ [] → hels (Y.take i ++ ([x] ++ Y.drop bh)) = holdH pl x.t.2 (hels Y)) := Lib.hid (fun x hx hne => by rw [hbh]; exact HOLD.out i b x AT.out hx hne)
  obtain ⟨TK, hTK⟩ : ∃ TK, TK = Y.take i := ⟨_, rfl⟩
  obtain ⟨DR, hDR⟩ : ∃ DR, DR = Y.drop bh := ⟨_, rfl⟩
  rw [← hTK] at SA NA LZ FIT HOLD2
  rw [← hDR] at SB NB LZ FIT HOLD2
  clear haA haB hnB hcB' hTK hDR
  have j1 : (i : Int) ≤ (n : Int) := by omega
  cases b
  · obtain rfl : bh = i := by rw [hbh]; rfl
    clear hbh BH HOLD
    go_upto_region 5 with (fail)
    have r0 : ∀ z, Frm [] w2 z → z.cell? ⟨g, 0, none⟩ = some (.int .u64 (pl : Nat)) := fun z hz => r0 z (F2.out.trans hz (by simp) (by simp))
    have r1 : ∀ z, Frm [] w2 z → z.cell? ⟨g, 1, none⟩ = some (.int .u64 (pe : Nat)) := fun z hz => r1 z (F2.out.trans hz (by simp) (by simp))
    have OFX := Lib.hid (fun z (hz : Frm [] w2 z) => OF.out z (SUB.out z hz))
    refine wp_region_held_drew (S := fun w' => Frm [] w2 w') (by kernel_rfl) (Frm.drew (Frm.refl _ _)) (fun hHeld => ?_)
    refine wpAnyH_take (i := 0) (oi := ⟨some 20, _, _, _, _, _⟩) (v := ?_) rfl (by kernel_rfl) (by kernel_rfl) (by kernel_rfl) (fun _ _ _ h => h) (Or.inl ⟨by rfl, ?_⟩) (by assumption) ?_
    rotate_left 1
    · (intro w hSw; (try dsimp only at hSw); go_simp; all_goals with_reducible rfl)
    try simp only [Act.put, List.setIfInBounds_toArray, List.set_cons_zero, List.set_cons_succ]
    refine wpAnyH_take (i := 1) (oi := ⟨some 21, _, _, _, _, _⟩) (v := ?_) rfl (by kernel_rfl) (by kernel_rfl) (by kernel_rfl) (fun _ _ _ h => h) (Or.inl ⟨by rfl, ?_⟩) (by assumption) ?_
    rotate_left 1
    · (intro w hSw; (try dsimp only at hSw); go_simp; all_goals with_reducible rfl)
    try simp only [Act.put, List.setIfInBounds_toArray, List.set_cons_zero, List.set_cons_succ]
    refine wpAnyH_take (i := 2) (oi := ⟨some 22, _, _, _, _, _⟩) (v := ?_) rfl (by kernel_rfl) (by kernel_rfl) (by kernel_rfl) (fun _ _ _ h => h) (Or.inl ⟨by rfl, ?_⟩) (by assumption) ?_
    rotate_left 1
    · (intro w hSw; (try dsimp only at hSw); go_simp; all_goals with_reducible rfl)
    try simp only [Act.put, List.setIfInBounds_toArray, List.set_cons_zero, List.set_cons_succ]
    refine wpAnyH_take (i := 4) (oi := ⟨some 24, _, _, _, _, _⟩) (v := ?_) rfl (by kernel_rfl) (by kernel_rfl) (by kernel_rfl) (fun _ _ _ h => h) (Or.inl ⟨by rfl, ?_⟩) (by assumption) ?_
    rotate_left 1
    · (intro w hSw; (try dsimp only at hSw); go_simp; all_goals with_reducible rfl)
    try simp only [Act.put, List.setIfInBounds_toArray, List.set_cons_zero, List.set_cons_succ]
    refine wpAnyH_take (i := 5) (oi := ⟨some 25, _, _, _, _, _⟩) (v := ?_) rfl (by kernel_rfl) (by kernel_rfl) (by kernel_rfl) (fun _ _ _ h => h) (Or.inl ⟨by rfl, ?_⟩) (by assumption) ?_
    rotate_left 1
    · (intro w hSw; (try dsimp only at hSw); go_simp; all_goals with_reducible rfl)
    try simp only [Act.put, List.setIfInBounds_toArray, List.set_cons_zero, List.set_cons_succ]
    refine wpAnyH_take (i := 6) (oi := ⟨some 26, _, _, _, _, _⟩) (v := ?_) rfl (by kernel_rfl) (by kernel_rfl) (by kernel_rfl) (fun _ _ _ h => h) (Or.inl ⟨by rfl, ?_⟩) (by assumption) ?_
    rotate_left 1
    · (intro w hSw; (try dsimp only at hSw); go_simp; all_goals with_reducible rfl)
    try simp only [Act.put, List.setIfInBounds_toArray, List.set_cons_zero, List.set_cons_succ]
    refine wpAnyH_take (i := 7) (oi := ⟨some 27, _, _, _, _, _⟩) (v := ?_) rfl (by kernel_rfl) (by kernel_rfl) (by kernel_rfl) (fun _ _ _ h => h) (Or.inl ⟨by rfl, ?_⟩) (by assumption) ?_
    rotate_left 1
    · (intro w hSw; (try dsimp only at hSw); go_simp; all_goals with_reducible rfl)
    try simp only [Act.put, List.setIfInBounds_toArray, List.set_cons_zero, List.set_cons_succ]
    refine wpAnyH_take (i := 8) (oi := ⟨some 28, _, _, _, _, _⟩) (v := ?_) rfl (by kernel_rfl) (by kernel_rfl) (by kernel_rfl) (fun _ _ _ h => h) (Or.inl ⟨by rfl, ?_⟩) (by assumption) ?_
    rotate_left 1
    · (intro w hSw; (try dsimp only at hSw); go_simp; all_goals with_reducible rfl)
    try simp only [Act.put, List.setIfInBounds_toArray, List.set_cons_zero, List.set_cons_succ]
    refine wpAnyH_take (i := 9) (oi := ⟨some 29, _, _, _, _, _⟩) (v := ?_) rfl (by kernel_rfl) (by kernel_rfl) (by kernel_rfl) (fun _ _ _ h => h) (Or.inl ⟨by rfl, ?_⟩) (by assumption) ?_
    rotate_left 1
    · (intro w hSw; (try dsimp only at hSw); go_simp; all_goals with_reducible rfl)
    try simp only [Act.put, List.setIfInBounds_toArray, List.set_cons_zero, List.set_cons_succ]
    refine wpAnyH_ready (rs := [3]) (by kernel_rfl) (by simp) ?_
    refine AllReadyH.cons (o := ⟨some 23, _, _, _, _, _⟩) rfl (fun K hK => ?_) AllReadyH.nil
    go_simp
    go_at_call 46; (with_reducible refine (OFX.out _ hHeld).mono ?_); rintro e v2 ⟨ar, cr, rfl, hrr, hnl, hlc, hcm, _, hv2⟩; have RR := Lib.hid hrr; have CC : Hid (CapOk ar R0.length cr) := Lib.hid ⟨hnl, hlc, hcm⟩; clear hrr hnl hlc hcm; have hHeld2 : Frm [] w2 v2 := hHeld.trans hv2 (by simp) (by simp)
    go_wp2_with fail
    refine hK.out _ _ (by assumption) (fun hHeld => ?_)
    clear hK K
    try simp only [Act.put, List.setIfInBounds_toArray, List.set_cons_zero, List.set_cons_succ]
    refine wpAnyH_ready (rs := [10]) (by kernel_rfl) (by simp) ?_
    refine AllReadyH.cons (o := ⟨some 30, _, _, _, _, _⟩) rfl (fun K hK => ?_) AllReadyH.nil
    go_simp
    go_at_call 69; (with_reducible refine (ADD.out _ _ _ RR.out CC.out).mono ?_); rintro e v3 ⟨ao, ko, co, out, rfl, KO, OO, SO, FO⟩; have hHeld3 : Frm [] w2 v3 := hHeld.trans FO.out (by simp) (by simp)
    go_wp2_with fail
    refine hK.out _ _ (by assumption) (fun hHeld => ?_)
    clear hK K
    try simp only [Act.put, List.setIfInBounds_toArray, List.set_cons_zero, List.set_cons_succ]
    refine wpAnyH_take (i := 11) (oi := ⟨some 8, _, _, _, _, _⟩) (v := ?_) rfl (by kernel_rfl) (by kernel_rfl) (by kernel_rfl) (fun _ _ _ h => h) (Or.inl ⟨by rfl, ?_⟩) (by assumption) ?_
    rotate_left 1
    · (intro w hSw; (try dsimp only at hSw); go_simp; all_goals with_reducible rfl)
    try simp only [Act.put, List.setIfInBounds_toArray, List.set_cons_zero, List.set_cons_succ]
    refine wpAnyH_done (by kernel_rfl) ?_ _
    have FW3 : Hid (Frm [] w v3) := Lib.hid (SUB.out _ hHeld)
    have HF0 := Lib.hid (fun z (hz : Frm [] w z) x (hx : x ∈ F) => Nat.lt_of_lt_of_le (HF0.out x hx) hz.size)
    have NE : Hid (out ≠ []) := Lib.hid (fun h0 => by
      have := (SO.out.2.1 pe).2 (.inr ⟨Nat.le_refl _, by have := E1.out; omega⟩)
      rw [h0] at this
      exact Mem.nil _ this)
    have XOK : Hid (HxOk v3 F ⟨(pl, out), ao, co⟩) := Lib.hid ⟨OO.out.1, fun _ q hq hm => by
      have h1 := OO.out.2.2 q hq
      have h2 := (SUB.out _ hHeld2).size
      have h3 := HF0.out w (Frm.refl _ _) _ hm
      omega, OO.out.2.1.1, PL.out, OO.out.2.1.2⟩
    have CAT := Lib.hid (cqcat_one (W := v3) (x := ⟨(pl, out), ao, co⟩) (nx := ko) (SA.out v3 FW3.out) (SB.out v3 FW3.out) XOK.out (HF0.out v3 FW3.out) NA.out NB.out KO.out FIT.out)
    simp only at CAT
    have HZ := Lib.hid (HOLD2.out ⟨(pl, out), ao, co⟩ rfl NE.out)
    have LZ2 := Lib.hid (LZ.out ⟨(pl, out), ao, co⟩)
    generalize TK ++ ([(⟨(pl, out), ao, co⟩ : Hx)] ++ DR) = Z at CAT HZ LZ2
    have r0 : ∀ z, Frm [] v3 z → z.cell? ⟨g, 0, none⟩ = some (.int .u64 (pl : Nat)) := fun z hz => r0 z (hHeld3.trans hz (by simp) (by simp))
    obtain ⟨zn, hzn⟩ : ∃ zn, zn = Z.length := ⟨_, rfl⟩
    rw [← hzn] at CAT
    have HZN := Lib.hid hzn
    clear r1 hHeld hHeld2 hHeld3 OFX ADD OF FIND hzn
    go_wp2
    refine wp_region_held_drew (S := fun w' => Frm [] v3 w') (by kernel_rfl) (Frm.drew (Frm.refl _ _)) (fun hHeld => ?_)
    refine wpAnyH_take (i := 0) (oi := ⟨some 31, _, _, _, _, _⟩) (v := ?_) rfl (by kernel_rfl) (by kernel_rfl) (by kernel_rfl) (fun _ _ _ h => h) (Or.inl ⟨by rfl, ?_⟩) (by assumption) ?_
    rotate_left 1
    · (intro w hSw; (try dsimp only at hSw); go_simp; all_goals with_reducible rfl)
    try simp only [Act.put, List.setIfInBounds_toArray, List.set_cons_zero, List.set_cons_succ]
    refine wpAnyH_take (i := 1) (oi := ⟨some 32, _, _, _, _, _⟩) (v := ?_) rfl (by kernel_rfl) (by kernel_rfl) (by kernel_rfl) (fun _ _ _ h => h) (Or.inl ⟨by rfl, ?_⟩) (by assumption) ?_
    rotate_left 1
    · (intro w hSw; (try dsimp only at hSw); go_simp; all_goals with_reducible rfl)
    try simp only [Act.put, List.setIfInBounds_toArray, List.set_cons_zero, List.set_cons_succ]
    refine wpAnyH_take (i := 2) (oi := ⟨some 33, _, _, _, _, _⟩) (v := ?_) rfl (by kernel_rfl) (by kernel_rfl) (by kernel_rfl) (fun _ _ _ h => h) (Or.inl ⟨by rfl, ?_⟩) (by assumption) ?_
    rotate_left 1
    · (intro w hSw; (try dsimp only at hSw); go_simp; all_goals with_reducible rfl)
    try simp only [Act.put, List.setIfInBounds_toArray, List.set_cons_zero, List.set_cons_succ]
    refine wpAnyH_take (i := 3) (oi := ⟨some 34, _, _, _, _, _⟩) (v := ?_) rfl (by kernel_rfl) (by kernel_rfl) (by kernel_rfl) (fun _ _ _ h => h) (Or.inl ⟨by rfl, ?_⟩) (by assumption) ?_
    rotate_left 1
    · (intro w hSw; (try dsimp only at hSw); go_simp; all_goals with_reducible rfl)
    try simp only [Act.put, List.setIfInBounds_toArray, List.set_cons_zero, List.set_cons_succ]
    refine wpAnyH_take (i := 4) (oi := ⟨some 35, _, _, _, _, _⟩) (v := ?_) rfl (by kernel_rfl) (by kernel_rfl) (by kernel_rfl) (fun _ _ _ h => h) (Or.inl ⟨by rfl, ?_⟩) (by assumption) ?_
    rotate_left 1
    · (intro w hSw; (try dsimp only at hSw); go_simp; all_goals with_reducible rfl)
    try simp only [Act.put, List.setIfInBounds_toArray, List.set_cons_zero, List.set_cons_succ]
    refine wpAnyH_take (i := 5) (oi := ⟨some 36, _, _, _, _, _⟩) (v := ?_) rfl (by kernel_rfl) (by kernel_rfl) (by kernel_rfl) (fun _ _ _ h => h) (Or.inl ⟨by rfl, ?_⟩) (by assumption) ?_
    rotate_left 1
    · (intro w hSw; (try dsimp only at hSw); go_simp; all_goals with_reducible rfl)
    try simp only [Act.put, List.setIfInBounds_toArray, List.set_cons_zero, List.set_cons_succ]
    refine wpAnyH_take (i := 6) (oi := ⟨some 37, _, _, _, _, _⟩) (v := ?_) rfl (by kernel_rfl) (by kernel_rfl) (by kernel_rfl) (fun _ _ _ h => h) (Or.inl ⟨by rfl, ?_⟩) (by assumption) ?_
    rotate_left 1
    · (intro w hSw; (try dsimp only at hSw); go_simp; all_goals with_reducible rfl)
    try simp only [Act.put, List.setIfInBounds_toArray, List.set_cons_zero, List.set_cons_succ]
    refine wpAnyH_take (i := 8) (oi := ⟨some 39, _, _, _, _, _⟩) (v := ?_) rfl (by kernel_rfl) (by kernel_rfl) (by kernel_rfl) (fun _ _ _ h => h) (Or.inl ⟨by rfl, ?_⟩) (by assumption) ?_
    rotate_left 1
    · (intro w hSw; (try dsimp only at hSw); go_simp; all_goals with_reducible rfl)
    try simp only [Act.put, List.setIfInBounds_toArray, List.set_cons_zero, List.set_cons_succ]
    refine wpAnyH_take (i := 9) (oi := ⟨some 40, _, _, _, _, _⟩) (v := ?_) rfl (by kernel_rfl) (by kernel_rfl) (by kernel_rfl) (fun _ _ _ h => h) (Or.inl ⟨by rfl, ?_⟩) (by assumption) ?_
    rotate_left 1
    · (intro w hSw; (try dsimp only at hSw); go_simp; all_goals with_reducible rfl)
    try simp only [Act.put, List.setIfInBounds_toArray, List.set_cons_zero, List.set_cons_succ]
    refine wpAnyH_take (i := 10) (oi := ⟨some 41, _, _, _, _, _⟩) (v := ?_) rfl (by kernel_rfl) (by kernel_rfl) (by kernel_rfl) (fun _ _ _ h => h) (Or.inl ⟨by rfl, ?_⟩) (by assumption) ?_
    rotate_left 1
    · (intro w hSw; (try dsimp only at hSw); go_simp; all_goals with_reducible rfl)
    try simp only [Act.put, List.setIfInBounds_toArray, List.set_cons_zero, List.set_cons_succ]
    refine wpAnyH_ready (rs := [7]) (by kernel_rfl) (by simp) ?_
    refine AllReadyH.cons (o := ⟨some 38, _, _, _, _, _⟩) rfl (fun K hK => ?_) AllReadyH.nil
    go_simp
    refine hK.out _ _ (by repeat (first | assumption | apply Frm.alloc | apply Frm.drew | exact Frm.refl _ _)) (fun hHeld => ?_)
    clear hK K
    try simp only [Act.put, List.setIfInBounds_toArray, List.set_cons_zero, List.set_cons_succ]
    refine wpAnyH_ready (rs := [11]) (by kernel_rfl) (by simp) ?_
    refine AllReadyH.cons (o := ⟨some 42, _, _, _, _, _⟩) rfl (fun K hK => ?_) AllReadyH.nil
    go_simp
    refine hK.out _ _ (by repeat (first | assumption | apply Frm.alloc | apply Frm.drew | exact Frm.refl _ _)) (fun hHeld => ?_)
    clear hK K
    try simp only [Act.put, List.setIfInBounds_toArray, List.set_cons_zero, List.set_cons_succ]
    refine wpAnyH_ready (rs := [12]) (by kernel_rfl) (by simp) ?_
    refine AllReadyH.cons (o := ⟨some 43, _, _, _, _, _⟩) rfl (fun K hK => ?_) AllReadyH.nil
    go_simp
    go_at_call 70; (with_reducible refine CAT.out.mono ?_); rintro e v4 ⟨a4, c4, rfl, ho4, hf4⟩; have hHeld4 : Frm [] v3 v4 := hf4
    go_wp2_with fail
    refine hK.out _ _ (by assumption) (fun hHeld => ?_)
    clear hK K
    try simp only [Act.put, List.setIfInBounds_toArray, List.set_cons_zero, List.set_cons_succ]
    refine wpAnyH_take (i := 13) (oi := ⟨some 4, _, _, _, _, _⟩) (v := ?_) rfl (by kernel_rfl) (by kernel_rfl) (by kernel_rfl) (fun _ _ _ h => h) (Or.inl ⟨by rfl, ?_⟩) (by assumption) ?_
    rotate_left 1
    · (intro w hSw; (try dsimp only at hSw); go_simp; all_goals with_reducible rfl)
    try simp only [Act.put, List.setIfInBounds_toArray, List.set_cons_zero, List.set_cons_succ]
    refine wpAnyH_done (by kernel_rfl) ?_ _
    have FIN : Hid (Q (.returned (.slice a4 zn c4)) v4) := Lib.hid (by
      rw [HQ.out]
      refine ⟨out, Z, a4, zn, c4, rfl, HZN, ⟨HZ.out, LZ2.out⟩, ⟨SO.out.1, fun x => ?_, ?_⟩, ⟨ho4.hl, ho4.caps.2.2, ho4.caps.1, by have := ho4.caps.2.1; unfold maxLen at this; omega⟩, FW3.out.trans hf4 (by simp) (by simp)⟩
      · show Mem out x ↔ Mem (ofH (hels Y) pl) x ∨ x = pe
        rw [SO.out.2.1 x, HR0.out]
        have := E1.out
        exact ⟨fun h => h.imp id (fun h => by omega), fun h => h.imp id (fun h => by omega)⟩
      · have := SO.out.2.2
        rw [HR0.out] at this
        exact this)
    clear r0 cA cB
    go_wp2
    exact FIN.out
  · have b1 : (i : Int) + 1 = (bh : Int) := by rw [hbh]; simp
    have b2 : IntKind.i64.wrap (bh : Int) = (bh : Int) := by simp [IntKind.wrap, IntKind.bits, IntKind.signed]; omega
    have b3 : IntKind.i64.wrap ((i : Int) + 1) = (bh : Int) := by rw [b1]; exact b2
    clear hbh BH HOLD
    go_upto_region 5 with (fail)
    have r0 : ∀ z, Frm [] w2 z → z.cell? ⟨g, 0, none⟩ = some (.int .u64 (pl : Nat)) := fun z hz => r0 z (F2.out.trans hz (by simp) (by simp))
    have r1 : ∀ z, Frm [] w2 z → z.cell? ⟨g, 1, none⟩ = some (.int .u64 (pe : Nat)) := fun z hz => r1 z (F2.out.trans hz (by simp) (by simp))
    have OFX := Lib.hid (fun z (hz : Frm [] w2 z) => OF.out z (SUB.out z hz))
    refine wp_region_held_drew (S := fun w' => Frm [] w2 w') (by kernel_rfl) (Frm.drew (Frm.refl _ _)) (fun hHeld => ?_)
    refine wpAnyH_take (i := 0) (oi := ⟨some 20, _, _, _, _, _⟩) (v := ?_) rfl (by kernel_rfl) (by kernel_rfl) (by kernel_rfl) (fun _ _ _ h => h) (Or.inl ⟨by rfl, ?_⟩) (by assumption) ?_
    rotate_left 1
    · (intro w hSw; (try dsimp only at hSw); go_simp; all_goals with_reducible rfl)
    try simp only [Act.put, List.setIfInBounds_toArray, List.set_cons_zero, List.set_cons_succ]
    refine wpAnyH_take (i := 1) (oi := ⟨some 21, _, _, _, _, _⟩) (v := ?_) rfl (by kernel_rfl) (by kernel_rfl) (by kernel_rfl) (fun _ _ _ h => h) (Or.inl ⟨by rfl, ?_⟩) (by assumption) ?_
    rotate_left 1
    · (intro w hSw; (try dsimp only at hSw); go_simp; all_goals with_reducible rfl)
    try simp only [Act.put, List.setIfInBounds_toArray, List.set_cons_zero, List.set_cons_succ]
    refine wpAnyH_take (i := 2) (oi := ⟨some 22, _, _, _, _, _⟩) (v := ?_) rfl (by kernel_rfl) (by kernel_rfl) (by kernel_rfl) (fun _ _ _ h => h) (Or.inl ⟨by rfl, ?_⟩) (by assumption) ?_
    rotate_left 1
    · (intro w hSw; (try dsimp only at hSw); go_simp; all_goals with_reducible rfl)
    try simp only [Act.put, List.setIfInBounds_toArray, List.set_cons_zero, List.set_cons_succ]
    refine wpAnyH_take (i := 4) (oi := ⟨some 24, _, _, _, _, _⟩) (v := ?_) rfl (by kernel_rfl) (by kernel_rfl) (by kernel_rfl) (fun _ _ _ h => h) (Or.inl ⟨by rfl, ?_⟩) (by assumption) ?_
    rotate_left 1
    · (intro w hSw; (try dsimp only at hSw); go_simp; all_goals with_reducible rfl)
    try simp only [Act.put, List.setIfInBounds_toArray, List.set_cons_zero, List.set_cons_succ]
    refine wpAnyH_take (i := 5) (oi := ⟨some 25, _, _, _, _, _⟩) (v := ?_) rfl (by kernel_rfl) (by kernel_rfl) (by kernel_rfl) (fun _ _ _ h => h) (Or.inl ⟨by rfl, ?_⟩) (by assumption) ?_
    rotate_left 1
    · (intro w hSw; (try dsimp only at hSw); go_simp; all_goals with_reducible rfl)
    try simp only [Act.put, List.setIfInBounds_toArray, List.set_cons_zero, List.set_cons_succ]
    refine wpAnyH_take (i := 6) (oi := ⟨some 26, _, _, _, _, _⟩) (v := ?_) rfl (by kernel_rfl) (by kernel_rfl) (by kernel_rfl) (fun _ _ _ h => h) (Or.inl ⟨by rfl, ?_⟩) (by assumption) ?_
    rotate_left 1
    · (intro w hSw; (try dsimp only at hSw); go_simp; all_goals with_reducible rfl)
    try simp only [Act.put, List.setIfInBounds_toArray, List.set_cons_zero, List.set_cons_succ]
    refine wpAnyH_take (i := 7) (oi := ⟨some 27, _, _, _, _, _⟩) (v := ?_) rfl (by kernel_rfl) (by kernel_rfl) (by kernel_rfl) (fun _ _ _ h => h) (Or.inl ⟨by rfl, ?_⟩) (by assumption) ?_
    rotate_left 1
    · (intro w hSw; (try dsimp only at hSw); go_simp; all_goals with_reducible rfl)
    try simp only [Act.put, List.setIfInBounds_toArray, List.set_cons_zero, List.set_cons_succ]
    refine wpAnyH_take (i := 8) (oi := ⟨some 28, _, _, _, _, _⟩) (v := ?_) rfl (by kernel_rfl) (by kernel_rfl) (by kernel_rfl) (fun _ _ _ h => h) (Or.inl ⟨by rfl, ?_⟩) (by assumption) ?_
    rotate_left 1
    · (intro w hSw; (try dsimp only at hSw); go_simp; all_goals with_reducible rfl)
    try simp only [Act.put, List.setIfInBounds_toArray, List.set_cons_zero, List.set_cons_succ]
    refine wpAnyH_take (i := 9) (oi := ⟨some 29, _, _, _, _, _⟩) (v := ?_) rfl (by kernel_rfl) (by kernel_rfl) (by kernel_rfl) (fun _ _ _ h => h) (Or.inl ⟨by rfl, ?_⟩) (by assumption) ?_
    rotate_left 1
    · (intro w hSw; (try dsimp only at hSw); go_simp; all_goals with_reducible rfl)
    try simp only [Act.put, List.setIfInBounds_toArray, List.set_cons_zero, List.set_cons_succ]
    refine wpAnyH_ready (rs := [3]) (by kernel_rfl) (by simp) ?_
    refine AllReadyH.cons (o := ⟨some 23, _, _, _, _, _⟩) rfl (fun K hK => ?_) AllReadyH.nil
    go_simp
    go_at_call 46; (with_reducible refine (OFX.out _ hHeld).mono ?_); rintro e v2 ⟨ar, cr, rfl, hrr, hnl, hlc, hcm, _, hv2⟩; have RR := Lib.hid hrr; have CC : Hid (CapOk ar R0.length cr) := Lib.hid ⟨hnl, hlc, hcm⟩; clear hrr hnl hlc hcm; have hHeld2 : Frm [] w2 v2 := hHeld.trans hv2 (by simp) (by simp)
    go_wp2_with fail
    refine hK.out _ _ (by assumption) (fun hHeld => ?_)
    clear hK K
    try simp only [Act.put, List.setIfInBounds_toArray, List.set_cons_zero, List.set_cons_succ]
    refine wpAnyH_ready (rs := [10]) (by kernel_rfl) (by simp) ?_
    refine AllReadyH.cons (o := ⟨some 30, _, _, _, _, _⟩) rfl (fun K hK => ?_) AllReadyH.nil
    go_simp
    go_at_call 69; (with_reducible refine (ADD.out _ _ _ RR.out CC.out).mono ?_); rintro e v3 ⟨ao, ko, co, out, rfl, KO, OO, SO, FO⟩; have hHeld3 : Frm [] w2 v3 := hHeld.trans FO.out (by simp) (by simp)
    go_wp2_with fail
    refine hK.out _ _ (by assumption) (fun hHeld => ?_)
    clear hK K
    try simp only [Act.put, List.setIfInBounds_toArray, List.set_cons_zero, List.set_cons_succ]
    refine wpAnyH_take (i := 11) (oi := ⟨some 8, _, _, _, _, _⟩) (v := ?_) rfl (by kernel_rfl) (by kernel_rfl) (by kernel_rfl) (fun _ _ _ h => h) (Or.inl ⟨by rfl, ?_⟩) (by assumption) ?_
    rotate_left 1
    · (intro w hSw; (try dsimp only at hSw); go_simp; all_goals with_reducible rfl)
    try simp only [Act.put, List.setIfInBounds_toArray, List.set_cons_zero, List.set_cons_succ]
    refine wpAnyH_done (by kernel_rfl) ?_ _
    have FW3 : Hid (Frm [] w v3) := Lib.hid (SUB.out _ hHeld)
    have HF0 := Lib.hid (fun z (hz : Frm [] w z) x (hx : x ∈ F) => Nat.lt_of_lt_of_le (HF0.out x hx) hz.size)
    have NE : Hid (out ≠ []) := Lib.hid (fun h0 => by
      have := (SO.out.2.1 pe).2 (.inr ⟨Nat.le_refl _, by have := E1.out; omega⟩)
      rw [h0] at this
      exact Mem.nil _ this)
    have XOK : Hid (HxOk v3 F ⟨(pl, out), ao, co⟩) := Lib.hid ⟨OO.out.1, fun _ q hq hm => by
      have h1 := OO.out.2.2 q hq
      have h2 := (SUB.out _ hHeld2).size
      have h3 := HF0.out w (Frm.refl _ _) _ hm
      omega, OO.out.2.1.1, PL.out, OO.out.2.1.2⟩
    have CAT := Lib.hid (cqcat_one (W := v3) (x := ⟨(pl, out), ao, co⟩) (nx := ko) (SA.out v3 FW3.out) (SB.out v3 FW3.out) XOK.out (HF0.out v3 FW3.out) NA.out NB.out KO.out FIT.out)
    simp only at CAT
    have HZ := Lib.hid (HOLD2.out ⟨(pl, out), ao, co⟩ rfl NE.out)
    have LZ2 := Lib.hid (LZ.out ⟨(pl, out), ao, co⟩)
    generalize TK ++ ([(⟨(pl, out), ao, co⟩ : Hx)] ++ DR) = Z at CAT HZ LZ2
    have r0 : ∀ z, Frm [] v3 z → z.cell? ⟨g, 0, none⟩ = some (.int .u64 (pl : Nat)) := fun z hz => r0 z (hHeld3.trans hz (by simp) (by simp))
    obtain ⟨zn, hzn⟩ : ∃ zn, zn = Z.length := ⟨_, rfl⟩
    rw [← hzn] at CAT
    have HZN := Lib.hid hzn
    clear r1 hHeld hHeld2 hHeld3 OFX ADD OF FIND hzn
    go_wp2
    refine wp_region_held_drew (S := fun w' => Frm [] v3 w') (by kernel_rfl) (Frm.drew (Frm.refl _ _)) (fun hHeld => ?_)
    refine wpAnyH_take (i := 0) (oi := ⟨some 31, _, _, _, _, _⟩) (v := ?_) rfl (by kernel_rfl) (by kernel_rfl) (by kernel_rfl) (fun _ _ _ h => h) (Or.inl ⟨by rfl, ?_⟩) (by assumption) ?_
    rotate_left 1
    · (intro w hSw; (try dsimp only at hSw); go_simp; all_goals with_reducible rfl)
    try simp only [Act.put, List.setIfInBounds_toArray, List.set_cons_zero, List.set_cons_succ]
    refine wpAnyH_take (i := 1) (oi := ⟨some 32, _, _, _, _, _⟩) (v := ?_) rfl (by kernel_rfl) (by kernel_rfl) (by kernel_rfl) (fun _ _ _ h => h) (Or.inl ⟨by rfl, ?_⟩) (by assumption) ?_
    rotate_left 1
    · (intro w hSw; (try dsimp only at hSw); go_simp; all_goals with_reducible rfl)
    try simp only [Act.put, List.setIfInBounds_toArray, List.set_cons_zero, List.set_cons_succ]
    refine wpAnyH_take (i := 2) (oi := ⟨some 33, _, _, _, _, _⟩) (v := ?_) rfl (by kernel_rfl) (by kernel_rfl) (by kernel_rfl) (fun _ _ _ h => h) (Or.inl ⟨by rfl, ?_⟩) (by assumption) ?_
    rotate_left 1
    · (intro w hSw; (try dsimp only at hSw); go_simp; all_goals with_reducible rfl)
    try simp only [Act.put, List.setIfInBounds_toArray, List.set_cons_zero, List.set_cons_succ]
    refine wpAnyH_take (i := 3) (oi := ⟨some 34, _, _, _, _, _⟩) (v := ?_) rfl (by kernel_rfl) (by kernel_rfl) (by kernel_rfl) (fun _ _ _ h => h) (Or.inl ⟨by rfl, ?_⟩) (by assumption) ?_
    rotate_left 1
    · (intro w hSw; (try dsimp only at hSw); go_simp; all_goals with_reducible rfl)
    try simp only [Act.put, List.setIfInBounds_toArray, List.set_cons_zero, List.set_cons_succ]
    refine wpAnyH_take (i := 4) (oi := ⟨some 35, _, _, _, _, _⟩) (v := ?_) rfl (by kernel_rfl) (by kernel_rfl) (by kernel_rfl) (fun _ _ _ h => h) (Or.inl ⟨by rfl, ?_⟩) (by assumption) ?_
    rotate_left 1
    · (intro w hSw; (try dsimp only at hSw); go_simp; all_goals with_reducible rfl)
    try simp only [Act.put, List.setIfInBounds_toArray, List.set_cons_zero, List.set_cons_succ]
    refine wpAnyH_take (i := 5) (oi := ⟨some 36, _, _, _, _, _⟩) (v := ?_) rfl (by kernel_rfl) (by kernel_rfl) (by kernel_rfl) (fun _ _ _ h => h) (Or.inl ⟨by rfl, ?_⟩) (by assumption) ?_
    rotate_left 1
    · (intro w hSw; (try dsimp only at hSw); go_simp; all_goals with_reducible rfl)
    try simp only [Act.put, List.setIfInBounds_toArray, List.set_cons_zero, List.set_cons_succ]
    refine wpAnyH_take (i := 6) (oi := ⟨some 37, _, _, _, _, _⟩) (v := ?_) rfl (by kernel_rfl) (by kernel_rfl) (by kernel_rfl) (fun _ _ _ h => h) (Or.inl ⟨by rfl, ?_⟩) (by assumption) ?_
    rotate_left 1
    · (intro w hSw; (try dsimp only at hSw); go_simp; all_goals with_reducible rfl)
    try simp only [Act.put, List.setIfInBounds_toArray, List.set_cons_zero, List.set_cons_succ]
    refine wpAnyH_take (i := 8) (oi := ⟨some 39, _, _, _, _, _⟩) (v := ?_) rfl (by kernel_rfl) (by kernel_rfl) (by kernel_rfl) (fun _ _ _ h => h) (Or.inl ⟨by rfl, ?_⟩) (by assumption) ?_
    rotate_left 1
    · (intro w hSw; (try dsimp only at hSw); go_simp; all_goals with_reducible rfl)
    try simp only [Act.put, List.setIfInBounds_toArray, List.set_cons_zero, List.set_cons_succ]
    refine wpAnyH_take (i := 9) (oi := ⟨some 40, _, _, _, _, _⟩) (v := ?_) rfl (by kernel_rfl) (by kernel_rfl) (by kernel_rfl) (fun _ _ _ h => h) (Or.inl ⟨by rfl, ?_⟩) (by assumption) ?_
    rotate_left 1
    · (intro w hSw; (try dsimp only at hSw); go_simp; all_goals with_reducible rfl)
    try simp only [Act.put, List.setIfInBounds_toArray, List.set_cons_zero, List.set_cons_succ]
    refine wpAnyH_take (i := 10) (oi := ⟨some 41, _, _, _, _, _⟩) (v := ?_) rfl (by kernel_rfl) (by kernel_rfl) (by kernel_rfl) (fun _ _ _ h => h) (Or.inl ⟨by rfl, ?_⟩) (by assumption) ?_
    rotate_left 1
    · (intro w hSw; (try dsimp only at hSw); go_simp; all_goals with_reducible rfl)
    try simp only [Act.put, List.setIfInBounds_toArray, List.set_cons_zero, List.set_cons_succ]
    refine wpAnyH_ready (rs := [7]) (by kernel_rfl) (by simp) ?_
    refine AllReadyH.cons (o := ⟨some 38, _, _, _, _, _⟩) rfl (fun K hK => ?_) AllReadyH.nil
    go_simp
    refine hK.out _ _ (by repeat (first | assumption | apply Frm.alloc | apply Frm.drew | exact Frm.refl _ _)) (fun hHeld => ?_)
    clear hK K
    try simp only [Act.put, List.setIfInBounds_toArray, List.set_cons_zero, List.set_cons_succ]
    refine wpAnyH_ready (rs := [11]) (by kernel_rfl) (by simp) ?_
    refine AllReadyH.cons (o := ⟨some 42, _, _, _, _, _⟩) rfl (fun K hK => ?_) AllReadyH.nil
    go_simp
    refine hK.out _ _ (by repeat (first | assumption | apply Frm.alloc | apply Frm.drew | exact Frm.refl _ _)) (fun hHeld => ?_)
    clear hK K
    try simp only [Act.put, List.setIfInBounds_toArray, List.set_cons_zero, List.set_cons_succ]
    refine wpAnyH_ready (rs := [12]) (by kernel_rfl) (by simp) ?_
    refine AllReadyH.cons (o := ⟨some 43, _, _, _, _, _⟩) rfl (fun K hK => ?_) AllReadyH.nil
    go_simp
    go_at_call 70; (with_reducible refine CAT.out.mono ?_); rintro e v4 ⟨a4, c4, rfl, ho4, hf4⟩; have hHeld4 : Frm [] v3 v4 := hf4
    go_wp2_with fail
    refine hK.out _ _ (by assumption) (fun hHeld => ?_)
    clear hK K
    try simp only [Act.put, List.setIfInBounds_toArray, List.set_cons_zero, List.set_cons_succ]
    refine wpAnyH_take (i := 13) (oi := ⟨some 4, _, _, _, _, _⟩) (v := ?_) rfl (by kernel_rfl) (by kernel_rfl) (by kernel_rfl) (fun _ _ _ h => h) (Or.inl ⟨by rfl, ?_⟩) (by assumption) ?_
    rotate_left 1
    · (intro w hSw; (try dsimp only at hSw); go_simp; all_goals with_reducible rfl)
    try simp only [Act.put, List.setIfInBounds_toArray, List.set_cons_zero, List.set_cons_succ]
    refine wpAnyH_done (by kernel_rfl) ?_ _
    have FIN : Hid (Q (.returned (.slice a4 zn c4)) v4) := Lib.hid (by
      rw [HQ.out]
      refine ⟨out, Z, a4, zn, c4, rfl, HZN, ⟨HZ.out, LZ2.out⟩, ⟨SO.out.1, fun x => ?_, ?_⟩, ⟨ho4.hl, ho4.caps.2.2, ho4.caps.1, by have := ho4.caps.2.1; unfold maxLen at this; omega⟩, FW3.out.trans hf4 (by simp) (by simp)⟩
      · show Mem out x ↔ Mem (ofH (hels Y) pl) x ∨ x = pe
        rw [SO.out.2.1 x, HR0.out]
        have := E1.out
        exact ⟨fun h => h.imp id (fun h => by omega), fun h => h.imp id (fun h => by omega)⟩
      · have := SO.out.2.2
        rw [HR0.out] at this
        exact this)
    clear r0 cA cB
    go_wp2
    exact FIN.out
end Go.Proofs.Ytghadpihmhaepaa
/- Contracts of the program's leftOf, left. -/
namespace Go.Proofs.Ytghadpihmhaepaa
open Go.RowKit
set_option maxRecDepth 100000

/-- What of a ledger's is held from a place on. -/
def leftT (m : Ps) (h : Hel) : List Rg := if h.1 < m.l then [] else if h.1 = m.l then minR h.2 m.e else h.2
def leftH (m : Ps) (H : List Hel) : List Hel := (H.map (fun h => (h.1, leftT m h))).filter (fun h => decide (h.2 ≠ []))
theorem leftH_take (m : Ps) {H : List Hel} {k : Nat} (hk : k < H.length) : leftH m (H.take (k + 1)) = leftH m (H.take k) ++ (if leftT m (H.getD k default) = [] then [] else [((H.getD k default).1, leftT m (H.getD k default))]) := by
  unfold leftH
  have e : H.getD k default = H[k] := by simp [hk]
  rw [List.take_succ_eq_append_getElem hk, List.map_append, List.filter_append, e]
  congr 1
  by_cases h : leftT m H[k] = []
  · simp [h]
  · simp [h]
theorem minR_len (R : List Rg) (e : Nat) : (minR R e).length ≤ R.length := by
  unfold minR
  rw [List.length_map]
  exact List.length_filter_le _ _
theorem leftT_len (m : Ps) (h : Hel) : (leftT m h).length ≤ h.2.length := by
  unfold leftT
  split
  · simp
  · split
    · exact minR_len _ _
    · exact Nat.le_refl _
/-- Ranges of the call's own. -/
def OwnEnd (w : World) (out : List Rg) (e : Ending) (w' : World) : Prop := ∃ (a : Option Addr) (c : Nat), e = .returned (.slice a out.length c) ∧ Hid (Rr w' a out ∧ CapOk a out.length c ∧ (∀ q, a = some q → w.heap.size ≤ q.block)) ∧ Hid (Frm [] w w')
theorem OwnEnd.from' {w w1 w' : World} {out : List Rg} {e : Ending} (hf : Frm [] w w1) (h : OwnEnd w1 out e w') : OwnEnd w out e w' := by
  obtain ⟨a, c, h1, h2, h3⟩ := h
  exact ⟨a, c, h1, ⟨h2.out.1, h2.out.2.1, fun q hq => Nat.le_trans hf.size (h2.out.2.2 q hq)⟩, hf.trans h3.out (by simp) (by simp)⟩
set_option maxHeartbeats 2000000 in
theorem cqleftof_any (led : Nat) (ra : Option Addr) (rn rc : Nat) (rs : List Rg) (m : Ps) (w : World) (h : Rr w ra rs) (hr : Rt rs) (hn : rn = rs.length) (hsz : rn ≤ 1000) (hc : CapOk ra rn rc) (hme : m.e < 18446744073709551616) :
    Calls Try.prog 91 #[.agg #[.int .u64 (led : Nat), .slice ra rn rc], m.val] w (OwnEnd w (leftT m (led, rs))) := by
  obtain ⟨ml, me⟩ := m
  unfold Ps.val leftT
  simp only at hme ⊢
  obtain ⟨w1, hw1⟩ : ∃ w1, w1 = (w.alloc (.cells #[.int .u64 (led : Nat), .slice ra rn rc] 55)).alloc (.cells #[.int .u64 (ml : Nat), .int .u64 (me : Nat)] 25) := ⟨_, rfl⟩
  obtain ⟨g, hg⟩ : ∃ g, g = w.heap.size := ⟨_, rfl⟩
  have f1 : Frm [] w w1 := by rw [hw1]; exact ((Frm.refl _ _).alloc _).alloc _
  have F1 := Lib.hid f1
  have hh := h.keep0 f1
  clear f1
  by_cases h1 : led < ml
  · rw [if_pos h1]
    have d1 : decide (led < ml) = true := decide_eq_true h1
    have d2 : decide ((led : Int) < (ml : Int)) = true := decide_eq_true (by omega)
    have FIN : Hid (OwnEnd w [] (.returned (.slice none 0 0)) w1) := Lib.hid ⟨none, 0, rfl, ⟨Rr.nil _ _, ⟨fun _ => rfl, Nat.le_refl _, Nat.zero_le _⟩, fun q hq => by cases hq⟩, F1⟩
    clear h1 hh h hr hn
    go_enter Try.func91, Try.ntmps91
    go_wp2
    rw [← hw1]
    go_ret
    exact FIN.out
  · rw [if_neg h1]
    have d1 : decide (led < ml) = false := decide_eq_false h1
    have d2 : decide ((led : Int) < (ml : Int)) = false := decide_eq_false (by omega)
    by_cases h2 : led = ml
    · rw [if_pos h2]
      have d3 : ((led : Int) == (ml : Int)) = true := by rw [beq_iff_eq]; omega
      have REM : Hid (Calls Try.prog 77 #[.slice ra rn rc, .agg #[.int .u64 0, .int .u64 (me : Nat)]] w1 (OwnEnd w1 (minR rs me))) := Lib.hid (by
        have key : ∀ e w', Got w1 (fun x => Mem rs x ∧ ¬ (0 ≤ x ∧ x < me)) (rn + 1) e w' → OwnEnd w1 (minR rs me) e w' := fun e w' hg => by
          obtain ⟨a, k, c, out, rfl, hk, ho, hs, hf⟩ := hg.x
          have e1 : out = minR rs me := rt_uniq hs.out.1 (rt_minR hr me) (fun x => by rw [hs.out.2.1, mem_minR]; exact ⟨fun h => ⟨h.1, by have := h.2; omega⟩, fun h => ⟨h.1, by omega⟩⟩)
          rw [← e1]
          exact ⟨a, c, by rw [hk.out], ho, hf⟩
        rcases Nat.eq_zero_or_pos me with h0 | h0
        · exact (remove_empty (r1 := 0) (r2 := me) hh hr hn hc.1 hsz (by omega)).mono key
        · exact (remove_some (r1 := 0) (r2 := me) hh hr hn hc.2.1 hc.2.2 hc.1 hsz h0 hme).mono key)
      clear h1 h2 hh h hr hn
      go_enter Try.func91, Try.ntmps91
      go_wp2_with fail
      rw [← hw1]
      (with_reducible refine REM.out.mono ?_)
      rintro e w2 ⟨a2, c2, rfl, ho, hf⟩
      have FIN : Hid (OwnEnd w (minR rs me) (.returned (.slice a2 (minR rs me).length c2)) w2) := Lib.hid (OwnEnd.from' F1.out ⟨a2, c2, rfl, ho, hf⟩)
      go_wp2
      go_ret
      exact FIN.out
    · rw [if_neg h2]
      have d3 : ((led : Int) == (ml : Int)) = false := by rw [beq_eq_false_iff_ne]; omega
      have CLN : Hid (Calls Try.prog 94 #[.slice ra rn rc] w1 (OwnEnd w1 rs)) := Lib.hid ((cloneR_any hh hn hc.1 (by omega)).mono fun e w' hg => by
        obtain ⟨a, c, rfl, ho, hf⟩ := hg
        have hq := ho.rr hh.1
        exact ⟨a, c, rfl, ⟨hq.1, ⟨hq.2.1, hq.2.2.1, by have := hq.2.2.2; unfold maxLen at this; omega⟩, fun q hq => (ho.lt q hq).1⟩, hf⟩)
      clear h1 h2 hh h hr hn
      go_enter Try.func91, Try.ntmps91
      go_wp2_with fail
      rw [← hw1]
      (with_reducible refine CLN.out.mono ?_)
      rintro e w2 ⟨a2, c2, rfl, ho, hf⟩
      have FIN : Hid (OwnEnd w rs (.returned (.slice a2 rs.length c2)) w2) := Lib.hid (OwnEnd.from' F1.out ⟨a2, c2, rfl, ho, hf⟩)
      go_wp2
      go_ret
      exact FIN.out
/-- What left answers. -/
def LeftEnd (w : World) (F : List Nat) (H : List Hel) (m : Ps) (e : Ending) (w' : World) : Prop := ∃ (Z : List Hx) (a : Option Addr) (zn c : Nat), e = .returned (.slice a zn c) ∧ Hid (zn = Z.length) ∧ Hid (hels Z = leftH m H) ∧ Hid (HxL w' F a Z ∧ CapOk a Z.length c) ∧ Hid (Frm [] w w')
set_option maxHeartbeats 8000000 in
theorem cqleft_any (a : Option Addr) (n cap : Nat) (F : List Nat) (Y : List Hx) (m : Ps) (w : World) (h : HxL w F a Y) (hn : n = Y.length) (hsz : n ≤ 100000) (hr : RgsOk Y) (hF : ∀ x ∈ F, x < w.heap.size) (hme : m.e < 18446744073709551616) :
    Calls Try.prog 67 #[.slice a n cap, m.val] w (LeftEnd w F (hels Y) m) := by
  obtain ⟨w1, hw1⟩ : ∃ w1, w1 = w.alloc (.cells #[.int .u64 (m.l : Nat), .int .u64 (m.e : Nat)] 25) := ⟨_, rfl⟩
  obtain ⟨g, hg⟩ : ∃ g, g = w.heap.size := ⟨_, rfl⟩
  have F1 : Hid (Frm [] w w1) := Lib.hid (by rw [hw1]; exact (Frm.refl _ _).alloc _)
  have B1 : Hid (Whole w1 g 25 #[.int .u64 (m.l : Nat), .int .u64 (m.e : Nat)]) := Lib.hid (by rw [hw1, hg]; exact Whole.made _ _ _)
  obtain ⟨i0, hi, hz0, hz1, hz2⟩ := info_parts infoHe
  have HI := Lib.hid hi; clear hi
  have HZ0 := Lib.hid hz0; clear hz0
  have HZ1 := Lib.hid hz1; clear hz1
  have HZ2 := Lib.hid hz2; clear hz2
  have H := Lib.hid h; clear h
  have HN := Lib.hid hn; clear hn
  have HR := Lib.hid hr; clear hr
  have HF0 := Lib.hid hF; clear hF
  have LOF := Lib.hid (fun led ra rn rc rs z (h : Rr z ra rs) (hr : Rt rs) (hn : rn = rs.length) (hsz : rn ≤ 1000) (hc : CapOk ra rn rc) => cqleftof_any led ra rn rc rs m z h hr hn hsz hc hme)
  clear hme
  obtain ⟨Q, hQ⟩ : ∃ Q, Q = LeftEnd w F (hels Y) m := ⟨_, rfl⟩
  rw [← hQ]
  have HQ := Lib.hid hQ; clear hQ
  have SUCa := Lib.hid (fun k (hk : k < (hels Y).length) => leftH_take m hk)
  have L0a : Hid (leftH m ((hels Y).take 0) = []) := Lib.hid rfl
  obtain ⟨LL, hLL⟩ : ∃ LL : Nat → List Hel, LL = fun k => leftH m ((hels Y).take k) := ⟨_, rfl⟩
  have SUC : Hid (∀ k, k < n → LL (k + 1) = LL k ++ (if leftT m (Y.getD k default).t = [] then [] else [((Y.getD k default).t.1, leftT m (Y.getD k default).t)])) := Lib.hid (fun k hk => by
    rw [hLL]
    have := SUCa.out k (by rw [hels_length, ← HN.out]; exact hk)
    rw [hels_getD] at this
    exact this)
  have L0 : Hid (LL 0 = []) := Lib.hid (by rw [hLL]; exact L0a.out)
  have LN : Hid (LL n = leftH m (hels Y)) := Lib.hid (by rw [hLL]; show leftH m ((hels Y).take n) = _; rw [List.take_of_length_le (by rw [hels_length, HN.out]; omega)])
  clear hLL L0a SUCa
  obtain ⟨T, hT⟩ : ∃ T : Hel → List Rg, T = leftT m := ⟨_, rfl⟩
  have TL : Hid (∀ x : Hel, (T x).length ≤ x.2.length) := Lib.hid (fun x => by rw [hT]; exact leftT_len m x)
  rw [← hT] at SUC LOF
  clear hT
  obtain ⟨ml, me⟩ := m
  unfold Ps.val at LOF ⊢
  unfold OwnEnd at LOF
  simp only at hw1 B1 LOF ⊢
  have HW1 := Lib.hid hw1; clear hw1
  go_enter Try.func67, Try.ntmps67
  go_wp2
  rw [← HW1.out, ← hg]
  have HG := Lib.hid hg; clear hg
  go_loopw [5, 11] (fun s5 s11 wr => ∃ (k : Nat) (aS : Option Addr) (sn cS : Nat) (S : List Hx), k ≤ n ∧ s11 = .int .i64 (k : Nat) ∧ s5 = .slice aS sn cS ∧ sn ≤ k ∧ Hid (sn = S.length) ∧ Hid (hels S = LL k) ∧ Hid (HxOwn wr w1.heap.size 55 F aS cS S) ∧ Hid (Frm [] w1 wr)) (fun _ s11 _ => n - (intOf s11).toNat)
  case atStart => exact ⟨0, none, 0, 0, [], Nat.zero_le _, rfl, rfl, Nat.le_refl _, Lib.hid rfl, Lib.hid (by rw [L0.out]; rfl), Lib.hid (HxOwn.nil _ _ _ _), Lib.hid (Frm.refl _ _)⟩
  case round =>
    obtain ⟨k, aS, sn, cS, S, hk, rfl, rfl, hsk, HSN, HSE, HO, HF⟩ := hrel
    have FWR : Hid (Frm [] w wr) := Lib.hid (F1.out.trans HF.out (by simp) (by simp))
    by_cases hlt : k < n
    · have hlt' : (k : Int) < (n : Int) := by omega
      have hkY : k < Y.length := by have := HN.out; omega
      obtain ⟨b, off, rfl, d0, d1, hok⟩ := (H.out.sub FWR.out).at (i := k) hkY
      have RO : Hid ((Y.getD k default).t.2.length ≤ 400 ∧ Rt (Y.getD k default).t.2) := Lib.hid (HR.out _ (by simp [hkY]))
      have SU := Lib.hid (SUC.out k hlt)
      obtain ⟨x, hx⟩ : ∃ x, x = Y.getD k default := ⟨_, rfl⟩
      rw [← hx] at d0 d1 hok RO SU
      have OK := Lib.hid hok
      clear hx hok hkY
      obtain ⟨⟨led, rs⟩, ra, rc⟩ := x
      simp only at d0 d1 RO SU
      have TLX := Lib.hid (TL.out (led, rs))
      obtain ⟨rn, hrn⟩ : ∃ rn, rn = rs.length := ⟨_, rfl⟩
      rw [← hrn] at d1
      obtain ⟨W3, hW3⟩ : ∃ W3, W3 = wr.alloc (.cells #[.int .u64 (led : Nat), .slice ra rn rc] 55) := ⟨_, rfl⟩
      obtain ⟨y3, hy3⟩ : ∃ y3, y3 = wr.heap.size := ⟨_, rfl⟩
      have FW3 : Hid (Frm [] wr W3) := Lib.hid (by rw [hW3]; exact (Frm.refl _ _).alloc _)
      have BW3 : Hid (Whole W3 y3 55 #[.int .u64 (led : Nat), .slice ra rn rc]) := Lib.hid (by rw [hW3, hy3]; exact Whole.made _ _ _)
      have LOX := Lib.hid (LOF.out led ra rn rc rs W3 (OK.out.rs.keep0 FW3.out) RO.out.2 hrn (by have := RO.out.1; omega) ⟨OK.out.nil, by rw [hrn]; exact OK.out.room.1, OK.out.room.2⟩)
      have B3 : Hid (Whole W3 g 25 #[.int .u64 (ml : Nat), .int .u64 (me : Nat)]) := Lib.hid ((HF.out.trans FW3.out (U := []) (by simp) (by simp)).whole B1.out (by simp))
      have NUM : Hid (led < 18446744073709551616) := Lib.hid OK.out.num
      have p0 := B3.out.cell 0
      have p1 := B3.out.cell 1
      have z0 := BW3.out.cell 0
      have z1 := BW3.out.cell 1
      simp only [List.getElem?_toArray, List.getElem?_cons_zero, List.getElem?_cons_succ] at p0 p1 z0 z1
      have HW3 := Lib.hid hW3; clear hW3
      have HY3 := Lib.hid hy3; clear hy3 hrn
      obtain ⟨out, hout⟩ : ∃ out, out = T (led, rs) := ⟨_, rfl⟩
      rw [← hout] at LOX SU TLX
      clear hout
      obtain ⟨on, hon⟩ : ∃ on, on = out.length := ⟨_, rfl⟩
      rw [← hon] at LOX TLX
      have hon4 : on ≤ 400 := by have h1 : on ≤ rs.length := TLX.out; have h2 := RO.out.1; omega
      have HON := Lib.hid hon; clear hon
      go_upto_region 5 with (fail)
      rw [← HW3.out, ← HY3.out]
      clear d0 d1
      go_wp2_with fail
      (with_reducible refine LOX.out.mono ?_)
      rintro e w4 ⟨a4, c4, rfl, O4, F4⟩
      have FW4 : Hid (Frm [] wr w4) := Lib.hid (FW3.out.trans F4.out (by simp) (by simp))
      have b4 := F4.out.whole BW3.out (by simp)
      have u0 := b4.cell 0
      simp only [List.getElem?_toArray, List.getElem?_cons_zero] at u0
      clear p0 p1 z0 z1 b4
      rcases Nat.eq_zero_or_pos on with h0 | h0
      · have dg : ¬ (0 : Int) < (on : Int) := by omega
        have E0 : Hid (LL (k + 1) = LL k) := Lib.hid (by rw [SU.out, if_pos (List.eq_nil_of_length_eq_zero (by have := HON.out; omega)), List.append_nil])
        have NX : Hid (HxOwn w4 w1.heap.size 55 F aS cS S) := Lib.hid (HO.out.keep FW4.out (by simp) (fun x hx => .inl hx))
        have FX : Hid (Frm [] w1 w4) := Lib.hid (HF.out.trans FW4.out (by simp) (by simp))
        clear h0
        go_wp2
        go_roundw
        case rel => exact ⟨k + 1, aS, sn, cS, S, by omega, by go_num, rfl, by omega, HSN, Lib.hid (by rw [HSE.out, E0.out]), NX, FX⟩
        case measure => simp [intOf]; omega
      · have dg : (0 : Int) < (on : Int) := by omega
        have NE : Hid (out ≠ []) := Lib.hid (fun h => by have := HON.out; rw [h] at this; simp at this; omega)
        have E1 : Hid (LL (k + 1) = LL k ++ [(led, out)]) := Lib.hid (by rw [SU.out, if_neg NE.out])
        have hfit : sn + 1 ≤ 1000000000 := by omega
        have hbz : w1.heap.size ≤ (w4.alloc (.cells #[.int .u64 (led : Nat), .slice a4 on c4] 55)).heap.size := by have := HF.out.size; have := FW4.out.size; simp; omega
        have XOK : Hid (HxOk w4 F ⟨(led, out), a4, c4⟩) := Lib.hid ⟨O4.out.1, fun _ q hq hm => by
          have h1 := O4.out.2.2 q hq
          have h2 := FWR.out.size
          have h4 := FW3.out.size
          have h3 := HF0.out _ hm
          omega, O4.out.2.1.1, NUM.out, by rw [← HON.out]; exact ⟨O4.out.2.1.2.1, O4.out.2.1.2.2⟩⟩
        have XB : Hid (∀ q, a4 = some q → q.block ∉ blk aS) := Lib.hid (fun q hq hm => by
          have h1 := O4.out.2.2 q hq
          have h2 := (HO.out.blk_lt _ hm).2
          have h4 := FW3.out.size
          omega)
        have HO4 : Hid (HxOwn (w4.alloc (.cells #[.int .u64 (led : Nat), .slice a4 on c4] 55)) w1.heap.size 55 F aS cS S) := Lib.hid (HO.out.keep (FW4.out.alloc _) (by simp) (fun x hx => .inl hx))
        have OWN : Hid ((w4.alloc (.cells #[.int .u64 (led : Nat), .slice a4 on c4] 55)).ownsRow w1.heap.size 55 2 (.slice aS sn cS) sn (hxc S)) := Lib.hid (by rw [HSN.out]; exact HO4.out.own)
        have ONE : Hid (ValsAt (w4.alloc (.cells #[.int .u64 (led : Nat), .slice a4 on c4] 55)) (some ⟨w4.heap.size, 0, none⟩) (hxc [⟨(led, out), a4, c4⟩])) := Lib.hid (by
          have := hxvals_one w4 ⟨(led, out), a4, c4⟩ 55
          simp only at this
          rw [← HON.out] at this
          exact this)
        have F4W : Hid (Frm [] w1 (w4.alloc (.cells #[.int .u64 (led : Nat), .slice a4 on c4] 55))) := Lib.hid ((HF.out.trans FW4.out (U := []) (by simp) (by simp)).alloc _)
        have FWW : Hid (Frm [] w (w4.alloc (.cells #[.int .u64 (led : Nat), .slice a4 on c4] 55))) := Lib.hid (F1.out.trans F4W.out (by simp) (by simp))
        clear h0
        go_wp2_with (at_builtin; refine wpList_appS (by rfl) (.tmp 21) (.tmp 26) 26 rfl w1.heap.size 55 i0 (.agg #[.int .u64 0, .slice none 0 0]) 2 32 Try.underlying26 HI.out HZ0.out rfl (by decide) HZ1.out HZ2.out (by decide) (.slice aS sn cS) sn _ rfl OWN.out _ 1 1 _ rfl ONE.out rfl (hxc_one _) (fun h => by cases h) hfit hbz ?_)
        intro a5 c5 w5 happ
        have g5 := HO4.out.app (n := sn) (m := 1) (Y := [⟨(led, out), a4, c4⟩]) HSN.out (fun y hy => by
          simp only [List.mem_singleton] at hy
          subst hy
          have hq := XOK.out.keep (F' := F) (S := []) ((Frm.refl [] w4).alloc (.cells #[.int .u64 (led : Nat), .slice a4 on c4] 55)) (by simp) (fun x hx => .inl hx)
          exact ⟨hq.rs, fun hne q hq' hm => (List.mem_append.1 hm).elim (fun h1 => XB.out q hq' h1) (fun h1 => hq.away hne q hq' h1), hq.nil, hq.num, hq.room⟩) rfl (fun x hx => Nat.lt_of_lt_of_le (HF0.out x hx) FWW.out.size) happ
        have NX := Lib.hid g5.1
        have FX : Hid (Frm [] w1 w5) := Lib.hid (F4W.out.trans g5.2.1 (by simp) (fun x hx => .inr (HO.out.blk_lt x hx).1))
        have LNX : Hid (sn + 1 = (S ++ [(⟨(led, out), a4, c4⟩ : Hx)]).length) := Lib.hid g5.2.2.2
        have SEX : Hid (hels (S ++ [(⟨(led, out), a4, c4⟩ : Hx)]) = LL (k + 1)) := Lib.hid (by rw [hels_append, HSE.out, E1.out]; rfl)
        clear happ g5 hbz OWN ONE
        go_wp2
        go_roundw
        case rel => exact ⟨k + 1, a5, sn + 1, c5, S ++ [⟨(led, out), a4, c4⟩], by omega, by go_num, rfl, by omega, LNX, SEX, NX, FX⟩
        case measure => simp [intOf]; omega
    · obtain rfl : k = n := by omega
      have FIN : Hid (Q (.returned (.slice aS sn cS)) wr) := Lib.hid (by
        rw [HQ.out]
        exact ⟨S, aS, sn, cS, rfl, HSN, Lib.hid (by rw [HSE.out, LN.out]), ⟨HO.out.hl, HO.out.caps.2.2, HO.out.caps.1, by have := HO.out.caps.2.1; unfold maxLen at this; omega⟩, FWR⟩)
      go_wp2
      exact FIN.out
end Go.Proofs.Ytghadpihmhaepaa
/- Mathematics of cursors: what a mark's way passes, entries, tight cursors. It speaks of no program. -/
namespace Go.Proofs.Ytghadpihmhaepaa
open Go.RowKit

theorem mem_allP {X : List Ld} {o : Nat} {q : Ps} : q ∈ allP X o ↔ ∃ k, k < X.length ∧ q.l = (X.getD k default).id ∧ q.e < (X.getD k default).size o := by
  unfold allP
  rw [List.mem_flatMap]
  constructor
  · rintro ⟨x, hx, hq⟩
    obtain ⟨k, hk, rfl⟩ := List.mem_iff_getElem.1 hx
    obtain ⟨e, he, rfl⟩ := List.mem_map.1 hq
    exact ⟨k, hk, by simp [hk], by simpa [hk] using List.mem_range.1 he⟩
  · rintro ⟨k, hk, h1, h2⟩
    refine ⟨X.getD k default, by simp [hk], List.mem_map.2 ⟨q.e, List.mem_range.2 h2, ?_⟩⟩
    rw [← h1]
theorem next_min {X : List Ld} {o : Nat} (hr : RtLd X) {a p q : Ps} (h : nextP X o a = some p) (hq : q ∈ allP X o) (ha : ¬ q.lt a) : ¬ q.lt p := by
  obtain ⟨k, hk, h1, h2, rfl⟩ := nextP_some h
  obtain ⟨j, hj, e1, e2⟩ := mem_allP.1 hq
  have e3 : ¬ q.e < (X.getD j default).ahead o a := by
    rw [Ld.lt_ahead _ _ _ e2]
    intro h3
    apply ha
    rw [← e1] at h3
    exact h3
  intro hlt
  rcases Nat.lt_trichotomy j k with h4 | rfl | h4
  · exact h1 j h4 (by omega)
  · rcases hlt with h5 | ⟨_, h5⟩
    · simp only at h5; omega
    · simp only at h5; omega
  · have := hr.rise h4 hj
    rcases hlt with h5 | ⟨h5, _⟩
    · simp only at h5; omega
    · simp only at h5; omega
theorem next_mem {X : List Ld} {o : Nat} {a p : Ps} (h : nextP X o a = some p) : p ∈ allP X o := by
  rw [← nextP_find] at h
  exact List.mem_of_find?_eq_some h
theorem next_none {X : List Ld} {o : Nat} {a q : Ps} (h : nextP X o a = none) (hq : q ∈ allP X o) : q.lt a := by
  rw [← nextP_find, List.find?_eq_none] at h
  have := h q hq
  simpa using this
theorem hasP_mem {X : List Ld} {o : Nat} (hr : RtLd X) {p : Ps} : hasP X o p = true ↔ p ∈ allP X o := by
  unfold hasP
  rw [decide_eq_true_iff]
  constructor
  · exact next_mem
  · intro h
    cases hn : nextP X o p with
    | none => exact absurd (next_none hn h) (Ps.lt_irrefl p)
    | some q =>
      have h1 := next_min hr hn h (Ps.lt_irrefl p)
      have h2 := nextP_ge hn
      rw [Ps.tri h1 h2]
/-- All that a mark's way passes is held. -/
theorem reach_held {X : List Ld} {o : Nat} {H : List Hel} (hr : RtLd X) {m M : Ps} (h : Reach X o H m M) : ∀ q ∈ allP X o, ¬ q.lt m → q.lt M → Mem (ofH H q.l) q.e := by
  induction h with
  | refl => intro q _ h1 h2; exact absurd h2 h1
  | step h1 h2 ih =>
    rename_i a b
    intro q hq hm hb
    by_cases ha : q.lt a
    · exact ih q hq hm ha
    · obtain ⟨p, hn, hp, hl, hg⟩ := h2
      have h3 := next_min hr hn hq ha
      have h4 : q.l = p.l ∧ p.e ≤ q.e ∧ q.e < b.e := by
        unfold Ps.lt at h3 hb
        omega
      rw [h4.1]
      exact hg.2.2 q.e h4.2.1 h4.2.2
theorem reach_ge {X : List Ld} {o : Nat} {H : List Hel} {m M : Ps} (h : Reach X o H m M) : ¬ M.lt m := by
  induction h with
  | refl => exact Ps.lt_irrefl _
  | step h1 h2 ih =>
    obtain ⟨p, hn, _, hl, hg⟩ := h2
    have h3 := nextP_ge hn
    have h4 := hg.1
    unfold Ps.lt at *
    omega
theorem find_congr {α : Type} {L : List α} {P Q : α → Bool} (h1 : ∀ x ∈ L, Q x = false → P x = false) (h2 : ∀ x, L.find? Q = some x → P x = true) : L.find? P = L.find? Q := by
  induction L with
  | nil => rfl
  | cons x L ih =>
    cases hq : Q x with
    | true =>
      rw [List.find?_cons_of_pos hq] at h2 ⊢
      rw [List.find?_cons_of_pos (h2 x rfl)]
    | false =>
      have hp := h1 x (by simp) hq
      rw [List.find?_cons_of_neg (p := Q) (by rw [hq]; decide)] at h2
      rw [List.find?_cons_of_neg (p := Q) (by rw [hq]; decide), List.find?_cons_of_neg (p := P) (by rw [hp]; decide)]
      exact ih (fun y hy => h1 y (List.mem_cons_of_mem _ hy)) h2
/-- The later of two places. -/
def maxP (p m : Ps) : Ps := if p.lt m then m else p
theorem next_free {X : List Ld} {o : Nat} {H : List Hel} (hr : RtLd X) {m p M : Ps} (h : Reach X o H (maxP p m) M) (hs : Stop X o H M) : nextC X o ⟨m, H⟩ p = nextP X o M := by
  rw [← nextP_find]
  unfold nextC
  have hge := reach_ge h
  have hM : ¬ M.lt m ∧ ¬ M.lt p := by
    unfold maxP at hge
    split at hge
    · rename_i h1; unfold Ps.lt at *; omega
    · rename_i h1; unfold Ps.lt at *; omega
  refine find_congr (fun q hq h1 => ?_) (fun q hq => ?_)
  · simp only [decide_eq_false_iff_not, Decidable.not_not] at h1 ⊢
    rintro ⟨h2, h3⟩
    apply h3
    by_cases h4 : q.lt m
    · exact .inl h4
    · refine .inr (reach_held hr h q hq ?_ h1)
      unfold maxP
      split
      · exact h4
      · exact h2
  · have hq' := hq
    rw [nextP_find] at hq'
    have h1 := nextP_ge hq'
    simp only [decide_eq_true_iff]
    refine ⟨fun h2 => ?_, fun h2 => ?_⟩
    · have := hM.2; unfold Ps.lt at *; omega
    · rcases h2 with h2 | h2
      · have := hM.1; simp only at h2; unfold Ps.lt at *; omega
      · exact hs q hq' h2
/-- Right ranges, one at least, of each. -/
def RgsH (H : List Hel) : Prop := ∀ h ∈ H, h.2 ≠ [] ∧ Rt h.2
theorem ofH_mem {H : List Hel} (hs : Srt H) {h : Hel} (hm : h ∈ H) : ofH H h.1 = h.2 := by
  induction H with
  | nil => cases hm
  | cons a H ih =>
    unfold ofH
    rcases List.mem_cons.1 hm with rfl | hm
    · rw [List.find?_cons_of_pos (by simp)]
    · have := (srt_cons.1 hs).1 h hm
      rw [List.find?_cons_of_neg (by simp; omega)]
      exact ih (srt_cons.1 hs).2 hm
theorem srt_leftH {m : Ps} {H : List Hel} (hs : Srt H) : Srt (leftH m H) := by
  unfold leftH
  refine srt_filter ?_ _
  unfold Srt
  rw [List.pairwise_map]
  exact hs
theorem leftT_nil (m : Ps) (q : Nat) : leftT m (q, []) = [] := by
  unfold leftT minR
  split
  · rfl
  · split <;> rfl
theorem ofH_tail {c : Hel} {C : List Hel} (hs : Srt (c :: C)) : ofH C c.1 = [] := by
  unfold ofH
  rw [List.find?_eq_none.2]
  intro x hx
  have := (srt_cons.1 hs).1 x hx
  simp; omega
theorem ofH_leftH {m : Ps} {H : List Hel} (hs : Srt H) (q : Nat) : ofH (leftH m H) q = leftT m (q, ofH H q) := by
  induction H with
  | nil => exact (leftT_nil m q).symm
  | cons h H ih =>
    have ih := ih (srt_cons.1 hs).2
    have e : leftH m (h :: H) = (if leftT m h = [] then [] else [(h.1, leftT m h)]) ++ leftH m H := by
      unfold leftH
      rw [List.map_cons, List.filter_cons]
      by_cases h1 : leftT m h = []
      · simp [h1]
      · simp [h1]
    rw [e]
    by_cases hq : h.1 = q
    · have e2 : ofH (h :: H) q = h.2 := by unfold ofH; rw [List.find?_cons_of_pos (by simpa using hq)]
      have e3 : (q, h.2) = h := by rw [← hq]
      rw [e2, e3]
      by_cases h1 : leftT m h = []
      · rw [if_pos h1, List.nil_append, h1, ih, ← hq, ofH_tail hs, leftT_nil]
      · rw [if_neg h1]
        unfold ofH
        rw [List.cons_append, List.find?_cons_of_pos (by simpa using hq)]
    · have e2 : ofH (h :: H) q = ofH H q := by unfold ofH; rw [List.find?_cons_of_neg (by simpa using hq)]
      rw [e2, ← ih]
      split
      · rfl
      · unfold ofH
        rw [List.cons_append, List.find?_cons_of_neg (by simpa using hq), List.nil_append]
theorem ofH_find (H : List Hel) (l : Nat) : ofH H l = [] ∨ ∃ h ∈ H, h.1 = l ∧ ofH H l = h.2 := by
  unfold ofH
  split
  · rename_i h hf
    exact .inr ⟨h, List.mem_of_find?_eq_some hf, by simpa using List.find?_some hf, rfl⟩
  · exact .inl rfl
theorem ofH_off {H : List Hel} {q : Nat} (h : ∀ x ∈ H, x.1 ≠ q) : ofH H q = [] := by
  unfold ofH
  rw [List.find?_eq_none.2]
  intro x hx
  simpa using h x hx
theorem mem_leftT {m : Ps} {l : Nat} {R : List Rg} {e : Nat} : Mem (leftT m (l, R)) e ↔ Mem R e ∧ ¬ (Ps.mk l e).lt m := by
  unfold leftT Ps.lt
  simp only
  by_cases h1 : l < m.l
  · rw [if_pos h1]
    exact ⟨fun h => absurd h (Mem.nil _), fun h => absurd (.inl h1) h.2⟩
  · rw [if_neg h1]
    by_cases h2 : l = m.l
    · rw [if_pos h2, mem_minR]
      exact ⟨fun h => ⟨h.1, by omega⟩, fun h => ⟨h.1, by have := h.2; omega⟩⟩
    · rw [if_neg h2]
      exact ⟨fun h => ⟨h, by omega⟩, fun h => h.1⟩
theorem rt_leftT {m : Ps} {h : Hel} (hr : Rt h.2) : Rt (leftT m h) := by
  unfold leftT
  split
  · exact Rt.nil
  · split
    · exact rt_minR hr _
    · exact hr
/-- A right cursor. -/
structure OkC (c : Crs) : Prop where
  srt : Srt c.held
  rgs : RgsH c.held
  low : ∀ l e, Mem (ofH c.held l) e → ¬ (Ps.mk l e).lt c.mark
theorem RtI.rt {l : List Rg} (h : RtI l) : Rt l := by
  refine ⟨fun p hp => ?_, ?_⟩
  · obtain ⟨i, hi, rfl⟩ := List.mem_iff_getElem.1 hp
    have := (h i hi).1
    simpa [hi] using this
  · have key : ∀ j, j < l.length → ∀ i, i < j → (l.getD i (0, 0)).2 < (l.getD j (0, 0)).1 := by
      intro j
      induction j with
      | zero => intro _ i hi; omega
      | succ j ih =>
        intro hj i hi
        have h1 := (h (j + 1) hj).2 (by omega)
        rw [Nat.add_sub_cancel] at h1
        rcases Nat.lt_or_eq_of_le (Nat.le_of_lt_succ hi) with h2 | rfl
        · have h3 := ih (by omega) i h2
          have h4 := (h j (by omega)).1
          omega
        · exact h1
    rw [List.pairwise_iff_getElem]
    intro i j hi hj hij
    have := key j hj i hij
    simpa [hi, hj] using this
theorem rtc_iff (c : Crs) : RtC c ↔ OkC c := by
  obtain ⟨m, H⟩ := c
  constructor
  · intro h
    have hs : Srt H := by
      have key : ∀ j, j < H.length → ∀ i, i < j → (H.getD i default).1 < (H.getD j default).1 := by
        intro j
        induction j with
        | zero => intro _ i hi; omega
        | succ j ih =>
          intro hj i hi
          have h1 := (h (j + 1) hj).2.2.1 (by omega)
          rw [Nat.add_sub_cancel] at h1
          simp only at h1
          rcases Nat.lt_or_eq_of_le (Nat.le_of_lt_succ hi) with h2 | rfl
          · have h3 := ih (by omega) i h2
            omega
          · exact h1
      unfold Srt
      rw [List.pairwise_iff_getElem]
      intro i j hi hj hij
      have := key j hj i hij
      simpa [hi, hj] using this
    have hr : RgsH H := fun x hx => by
      obtain ⟨i, hi, rfl⟩ := List.mem_iff_getElem.1 hx
      have h1 := h i hi
      unfold RtH1 at h1
      simp only at h1
      rw [show H.getD i default = H[i] by simp [hi]] at h1
      exact ⟨h1.1, h1.2.1.rt⟩
    refine ⟨hs, hr, fun l e he => ?_⟩
    simp only at he ⊢
    rcases ofH_find H l with h0 | ⟨x, hx, hl, h0⟩
    · rw [h0] at he; exact absurd he (Mem.nil _)
    · rw [h0] at he
      obtain ⟨i, hi, rfl⟩ := List.mem_iff_getElem.1 hx
      have h1 := h i hi
      unfold RtH1 at h1
      simp only at h1
      rw [show H.getD i default = H[i] by simp [hi]] at h1
      have h2 := h1.2.2.2
      rw [hl] at h2
      have h3 := (hr _ hx).2
      cases hR : (H[i]).2 with
      | nil => exact absurd hR h1.1
      | cons p R =>
        rw [hR] at h2 h3 he
        have h4 := mem_lo h3 he
        simp only [List.getD_cons_zero] at h2
        unfold Ps.lt at *
        simp only at *
        omega
  · intro h i hi
    have hm : H[i] ∈ H := List.getElem_mem hi
    have h1 := h.rgs _ hm
    unfold RtH1
    simp only
    rw [show H.getD i default = H[i] by simp [hi]]
    refine ⟨h1.1, RtI.of h1.2, fun h0 => ?_, ?_⟩
    · have h2 := List.pairwise_iff_getElem.1 h.srt (i - 1) i (by simp only at hi ⊢; omega) hi (by omega)
      have hi' : i - 1 < H.length := by simp only at hi; omega
      rw [show H.getD (i - 1) default = H[i - 1] by simp [hi']]
      exact h2
    · refine h.low _ _ ?_
      rw [ofH_mem h.srt hm]
      cases hR : (H[i]).2 with
      | nil => exact absurd hR h1.1
      | cons p R =>
        have h3 := h1.2
        rw [hR] at h3
        simp only [List.getD_cons_zero]
        exact (mem_cons _ _ _).2 (.inl ⟨Nat.le_refl _, ((rt_cons _ _).1 h3).1⟩)
/-- Made tight from a cursor that is right. -/
theorem okc_left {H : List Hel} {M : Ps} (hs : Srt H) (hr : RgsH H) : OkC ⟨M, leftH M H⟩ := by
  refine ⟨srt_leftH hs, fun x hx => ?_, fun l e he => ?_⟩
  · unfold leftH at hx
    obtain ⟨h1, h2⟩ := List.mem_filter.1 hx
    obtain ⟨y, hy, rfl⟩ := List.mem_map.1 h1
    exact ⟨by simpa using h2, rt_leftT (hr y hy).2⟩
  · simp only at he ⊢
    rw [ofH_leftH hs, mem_leftT] at he
    exact he.2
theorem acked_left {X : List Ld} {o : Nat} {H : List Hel} {m M : Ps} (hX : RtLd X) (hs : Srt H) (h : Reach X o H m M) {q : Ps} (hq : q ∈ allP X o) : ackedC ⟨M, leftH M H⟩ q ↔ ackedC ⟨m, H⟩ q := by
  have hge := reach_ge h
  have e : ∀ Z : List Hel, Mem (ofH Z q.l) q.e ↔ Mem (ofH Z q.l) q.e := fun _ => Iff.rfl
  unfold ackedC
  simp only
  rw [ofH_leftH hs, mem_leftT]
  constructor
  · rintro (h1 | h1)
    · by_cases h2 : q.lt m
      · exact .inl h2
      · exact .inr (reach_held hX h q hq h2 h1)
    · exact .inr h1.1
  · rintro (h1 | h1)
    · refine .inl ?_
      unfold Ps.lt at *
      omega
    · by_cases h2 : q.lt M
      · exact .inl h2
      · exact .inr ⟨h1, h2⟩
theorem reach_cases {X : List Ld} {o : Nat} {H : List Hel} {m A : Ps} (h : Reach X o H m A) : m = A ∨ ∃ b, Step X o H m b ∧ Reach X o H b A := by
  induction h with
  | refl => exact .inl rfl
  | step h1 h2 ih =>
    rename_i a b
    rcases ih with rfl | ⟨c, h3, h4⟩
    · exact .inr ⟨b, h2, .refl _⟩
    · exact .inr ⟨c, h3, .step h4 h2⟩
theorem step_on {X : List Ld} {o : Nat} {H : List Hel} {m b A : Ps} (h : Reach X o H m A) (hs : Stop X o H A) (st : Step X o H m b) : Reach X o H b A := by
  rcases reach_cases h with rfl | ⟨c, h1, h2⟩
  · obtain ⟨p, hn, hm, _⟩ := st
    exact absurd hm (hs p hn)
  · rw [st.uniq h1]; exact h2
theorem reach_on {X : List Ld} {o : Nat} {H : List Hel} {m A B : Ps} (h : Reach X o H m A) (hs : Stop X o H A) (hB : Reach X o H m B) : Reach X o H B A := by
  induction hB with
  | refl => exact h
  | step _ h2 ih => exact step_on ih hs h2
theorem reach_uniq {X : List Ld} {o : Nat} {H : List Hel} {m A B : Ps} (h : Reach X o H m A) (hs : Stop X o H A) (hB : Reach X o H m B) (sB : Stop X o H B) : A = B := by
  rcases reach_cases (reach_on h hs hB) with h1 | ⟨c, h1, _⟩
  · exact h1.symm
  · obtain ⟨p, hn, hm, _⟩ := h1
    exact absurd hm (sB p hn)
end Go.Proofs.Ytghadpihmhaepaa
