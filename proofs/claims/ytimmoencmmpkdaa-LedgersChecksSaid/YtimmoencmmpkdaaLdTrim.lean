/- Package ledgers: contracts of slices.Clone, slices.IndexFunc over ledgers, of what Trim hands it, of Trim. -/
import Derived.Test.YtimmoencmmpkdaaLdOrder
import Derived.Test.YtimmoencmmpkdaaLdMath2
import Derived.Deep.RegionWith
import Derived.Deep.DeepCutAuto
import Derived.Lib.SliceRun
namespace Go.Proofs.Ytimmoencmmpkdaa
open Go.RowKit
set_option maxRecDepth 100000

theorem infoLd : (Try.prog.info? 32).map (fun i => (i.zero, i.size, i.bytes)) = some (some (.agg #[.int .u64 0, .bool false, .int .u64 0]), 3, 24) := by kernel_rfl
theorem sizeLd : ∀ w : World, (Go.sizeOf 32).run Try.prog w = .ok 3 w := fun w => by kernel_rfl
/-- What a call hands back that makes ledgers of its own. -/
def RetLd (w : World) (Y : List Ld) (e : Ending) (w' : World) : Prop := ∃ a' cap', e = .returned (.slice a' Y.length cap') ∧ LdOwn w' w.heap.size 32 [] a' cap' Y ∧ Frm [] w w'
theorem goesL_not (p : Ps) (x : Ld) : (!goesL p x) = (!x.cl || decide (0 < ordP ⟨x.id, x.n⟩ p)) := by
  unfold goesL
  rw [Bool.not_and]
  congr 1
  rw [Bool.eq_iff_iff]
  simp only [Bool.not_eq_true', decide_eq_false_iff_not, decide_eq_true_iff, ordP_pos, Classical.not_not]
set_option maxHeartbeats 1000000 in
theorem ldtrimf_any (x : Ld) (g : Nat) (p : Ps) (w : World) (h0 : w.cell? ⟨g, 0, none⟩ = some (.int .u64 (p.l : Nat))) (h1 : w.cell? ⟨g, 1, none⟩ = some (.int .u64 (p.e : Nat))) :
    Calls Try.prog 41 #[x.val, .pointer (some ⟨g, 0, none⟩)] w (LRet w (.bool (!goesL p x))) := by
  rw [goesL_not]
  have HO := Lib.hid (fun z => ldorder_any ⟨x.id, x.n⟩ p z)
  obtain ⟨c, hc⟩ : ∃ c, c = ordP ⟨x.id, x.n⟩ p := ⟨_, rfl⟩
  rw [← hc] at HO ⊢
  clear hc
  obtain ⟨xi, xc, xn⟩ := x
  obtain ⟨pl, pe⟩ := p
  unfold Ps.val LRet at HO
  unfold Ld.val LRet
  simp only at HO h0 h1 ⊢
  obtain ⟨w1, hw1⟩ : ∃ w1, w1 = w.alloc (.cells #[.int .u64 (xi : Nat), .bool xc, .int .u64 (xn : Nat)] 32) := ⟨_, rfl⟩
  have F1 : Hid (Frm [] w w1) := Lib.hid (by rw [hw1]; exact (Frm.refl _ _).alloc _)
  obtain ⟨y, hy⟩ : ∃ y, y = w.heap.size := ⟨_, rfl⟩
  have B1 : Whole w1 y 32 #[.int .u64 (xi : Nat), .bool xc, .int .u64 (xn : Nat)] := by rw [hw1, hy]; exact Whole.made _ _ _
  have p0 := (F1.out.cell (p := ⟨g, 0, none⟩) (block_lt_of_cell h0) (by simp)).trans h0
  have p1 := (F1.out.cell (p := ⟨g, 1, none⟩) (block_lt_of_cell h1) (by simp)).trans h1
  have y0 := B1.cell 0
  have y1 := B1.cell 1
  have y2 := B1.cell 2
  simp only [List.getElem?_toArray, List.getElem?_cons_zero, List.getElem?_cons_succ] at y0 y1 y2
  clear h0 h1 B1
  cases xc
  · go_enter Try.func41, Try.ntmps41
    go_upto_region 1 with (fail)
    rw [← hw1, ← hy]
    clear hw1 hy
    go_wp2
    go_ret
    exact ⟨by simp, F1.out⟩
  · go_enter Try.func41, Try.ntmps41
    go_upto_region 1 with (fail)
    rw [← hw1, ← hy]
    clear hw1 hy
    go_wp2_with fail
    (with_reducible refine (HO.out _).mono ?_)
    rintro e w2 ⟨rfl, hf2⟩
    have F2 : Hid (Frm [] w w2) := Lib.hid (F1.out.trans hf2 (by simp) (by simp))
    clear hf2
    go_wp2
    go_ret
    exact ⟨by simp, F2.out⟩
/-- How far IndexFunc comes. -/
def stayI (X : List Ld) (p : Ps) : Int := if goesN X p < X.length then (goesN X p : Nat) else -1
set_option maxHeartbeats 1000000 in
theorem ldindex_any (a : Option Addr) (n cap : Nat) (X : List Ld) (g : Nat) (p : Ps) (w : World) (h : LdL w [] a X) (hn : n = X.length) (hsz : n < 4611686018427387904) (h0 : w.cell? ⟨g, 0, none⟩ = some (.int .u64 (p.l : Nat))) (h1 : w.cell? ⟨g, 1, none⟩ = some (.int .u64 (p.e : Nat))) :
    Calls Try.prog 40 #[.slice a n cap, .func (.func 41) #[] #[.pointer (some ⟨g, 0, none⟩)]] w (LRet w (.int .i64 (stayI X p))) := by
  have HP : Hid (∀ wr, Frm [] w wr → ∀ x : Ld, Calls Try.prog 41 #[x.val, .pointer (some ⟨g, 0, none⟩)] wr (LRet wr (.bool (!goesL p x)))) := Lib.hid (fun wr hf x => ldtrimf_any x g p wr ((hf.cell (p := ⟨g, 0, none⟩) (block_lt_of_cell h0) (by simp)).trans h0) ((hf.cell (p := ⟨g, 1, none⟩) (block_lt_of_cell h1) (by simp)).trans h1))
  have H := Lib.hid h; clear h
  have HN := Lib.hid hn; clear hn h0 h1
  obtain ⟨R, hR⟩ : ∃ R, R = stayI X p := ⟨_, rfl⟩
  rw [← hR]
  have HR := Lib.hid hR; clear hR
  unfold LRet
  go_enter Try.func40, Try.ntmps40
  go_wp2
  go_loopw [8] (fun s8 wr => ∃ k : Nat, k ≤ n ∧ s8 = .int .i64 (k : Nat) ∧ Hid (∀ j, j < k → goesL p (X.getD j default) = true) ∧ Hid (Frm [] w wr)) (fun s8 _ => n - (intOf s8).toNat)
  case atStart => exact ⟨0, Nat.zero_le _, rfl, Lib.hid (fun j hj => absurd hj (Nat.not_lt_zero _)), Lib.hid (Frm.refl _ _)⟩
  case round =>
    obtain ⟨k, hk, rfl, HJ, HF⟩ := hrel
    by_cases hlt : k < n
    · have hlt' : (k : Int) < (n : Int) := by omega
      obtain ⟨b, off, rfl, d0, d1, d2, _⟩ := (H.out.sub HF.out).at (i := k) (by have := HN.out; omega)
      obtain ⟨x, hx⟩ : ∃ x, x = X.getD k default := ⟨_, rfl⟩
      rw [← hx] at d0 d1 d2
      have HC := Lib.hid (HP.out wr HF.out x)
      have YES : Hid (goesL p x = true → ∀ j, j < k + 1 → goesL p (X.getD j default) = true) := Lib.hid (fun hg j hj => by
        rcases Nat.lt_or_eq_of_le (Nat.le_of_lt_succ hj) with h | rfl
        · exact HJ.out j h
        · rw [← hx]; exact hg)
      have NO : Hid (goesL p x = false → R = (k : Nat)) := Lib.hid (fun hg => by
        have e := goesN_eq (X := X) (p := p) (k := k) (by have := HN.out; omega) HJ.out (fun _ => by rw [← hx]; exact hg)
        rw [HR.out]; unfold stayI; rw [e, if_pos (by have := HN.out; omega)])
      clear hx
      cases hgo : goesL p x
      · have E := Lib.hid (NO.out hgo)
        rw [hgo] at HC
        obtain ⟨xi, xc, xn⟩ := x
        unfold Ld.val LRet at HC
        simp only [Bool.not_false] at d0 d1 d2 HC
        clear hgo YES
        go_wp2_with ((with_reducible refine HC.out.mono ?_); rintro e w' ⟨rfl, hf1⟩; have HF1 := Lib.hid (HF.out.trans hf1 (U := []) (by simp) (by simp)); clear hf1)
        go_ret
        exact ⟨by rw [E.out]; rfl, HF1.out⟩
      · have NX := Lib.hid (YES.out hgo)
        rw [hgo] at HC
        obtain ⟨xi, xc, xn⟩ := x
        unfold Ld.val LRet at HC
        simp only [Bool.not_true] at d0 d1 d2 HC
        clear hgo NO
        go_wp2_with ((with_reducible refine HC.out.mono ?_); rintro e w' ⟨rfl, hf1⟩; have HF1 := Lib.hid (HF.out.trans hf1 (U := []) (by simp) (by simp)); clear hf1)
        go_roundw
        case rel => exact ⟨k + 1, by omega, by go_num, NX, HF1⟩
        case measure => simp [intOf]; omega
    · obtain rfl : k = n := by omega
      have E : Hid (R = -1) := Lib.hid (by
        have e := goesN_eq (X := X) (p := p) (k := k) (by have := HN.out; omega) HJ.out (fun h => by have := HN.out; omega)
        rw [HR.out]; unfold stayI; rw [e, if_neg (by have := HN.out; omega)])
      go_wp2
      go_ret
      exact ⟨by rw [E.out]; rfl, HF.out⟩
set_option maxHeartbeats 1000000 in
theorem ldclone_any (x : Addr) (n cap : Nat) (X : List Ld) (w : World) (h : LdL w [] (some x) X) (hn : n = X.length) (hfit : n ≤ 100000) :
    Calls Try.prog 33 #[.slice (some x) n cap] w (RetLd w X) := by
  have hq := fun (w : World) (a : Option Addr) (n c n' c' : Nat) => Lib.run_eql_slice_nil (P := Try.prog) w 22 32 a n c n' c' Try.underlying22
  obtain ⟨i0, hi, hz0, hz1, hz2⟩ := info_parts infoLd
  have HL := Lib.hid h; clear h
  have HN := Lib.hid hn; clear hn
  have HI := Lib.hid hi; clear hi
  have HZ0 := Lib.hid hz0; clear hz0
  have HZ1 := Lib.hid hz1; clear hz1
  have HZ2 := Lib.hid hz2; clear hz2
  have HLX : Hid ((ldc X).length = n * 3) := Lib.hid (by rw [ldc_length, HN.out])
  have hfit1 : 0 + n ≤ 1000000000 := by omega
  have HLIT : Hid (LdOwn (w.alloc (.cells #[] 32)) w.heap.size 32 [] (some ⟨w.heap.size, 0, none⟩) 0 []) := Lib.hid ⟨World.ownsRow_lit w #[] 0 (Nat.le_refl _) (by unfold maxLen; omega) rfl, by simp, by simp⟩
  go_enter Try.func33, Try.ntmps33
  go_wp2_with (at_builtin; refine wpList_appS (by rfl) (.tmp 5) (.tmp 6) 22 rfl w.heap.size 32 i0 (.agg #[.int .u64 0, .bool false, .int .u64 0]) 3 24 Try.underlying22 HI.out HZ0.out rfl (by decide) HZ1.out HZ2.out (by decide) (.slice (some ⟨w.heap.size, 0, none⟩) 0 0) 0 _ rfl HLIT.out.own _ n cap _ rfl (HL.out.vals.keep ((Frm.refl [] w).alloc _) (by simp)) HLX.out (ldc_one _) (fun h => by cases h) hfit1 (by simp) ?_)
  intro a2 c2 w2 happ
  have g3 := HLIT.out.app (X := []) rfl HL.out.fits HN.out (by simp) happ
  have hf2 : Frm [] w w2 := ((Frm.refl [] w).alloc _).grown happ.grown (fun k hk => .inr (by cases hk; exact Nat.le_refl _))
  have ho := g3.1
  rw [List.nil_append] at ho
  have HO := Lib.hid ho
  have HF := Lib.hid hf2
  clear happ g3 hf2 ho
  go_wp2
  go_ret
  exact ⟨a2, c2, by rw [← HN.out]; rfl, HO.out, HF.out⟩
set_option maxHeartbeats 1000000 in
theorem ldtrim_any (a : Option Addr) (n cap : Nat) (X : List Ld) (p : Ps) (w : World) (h : LdL w [] a X) (hn : n = X.length) (hc : n ≤ cap) (hfit : n ≤ 100000) :
    Calls Try.prog 27 #[.slice a n cap, p.val] w (RetLd w (trimL X p)) := by
  obtain ⟨w1, hw1⟩ : ∃ w1, w1 = w.alloc (.cells #[.int .u64 (p.l : Nat), .int .u64 (p.e : Nat)] 36) := ⟨_, rfl⟩
  have F1 : Hid (Frm [] w w1) := Lib.hid (by rw [hw1]; exact (Frm.refl _ _).alloc _)
  obtain ⟨g, hg⟩ : ∃ g, g = w.heap.size := ⟨_, rfl⟩
  have B1 : Whole w1 g 36 #[.int .u64 (p.l : Nat), .int .u64 (p.e : Nat)] := by rw [hw1, hg]; exact Whole.made _ _ _
  have HI := Lib.hid (ldindex_any a n cap X g p w1 (h.sub F1.out) hn (by omega) (B1.cell 0) (B1.cell 1))
  have WS : Hid (w.heap.size ≤ w1.heap.size) := Lib.hid F1.out.size
  rw [trimL_eq]
  have hle := goesN_le X p
  unfold stayI at HI
  obtain ⟨k, hk⟩ : ∃ k, k = goesN X p := ⟨_, rfl⟩
  rw [← hk] at HI hle ⊢
  clear hk B1
  by_cases hlt : k < X.length
  · rw [if_pos hlt] at HI
    obtain ⟨x, rfl⟩ : ∃ x, a = some x := by
      obtain ⟨b, off, rfl, _⟩ := h.at (i := k) hlt
      exact ⟨_, rfl⟩
    have hcut := fun w => run_cut3 (P := Try.prog) Try.underlying22 sizeLd w (some x) n cap k (k : Int) rfl (by omega)
    obtain ⟨x2, hx2⟩ : ∃ x2, cut3 (some x) cap k = some x2 := by unfold cut3; split <;> exact ⟨_, rfl⟩
    obtain ⟨n2, hn2⟩ : ∃ n2, n2 = n - k := ⟨_, rfl⟩
    obtain ⟨c2, hc2⟩ : ∃ c2, c2 = cap - k := ⟨_, rfl⟩
    rw [hx2, ← hn2, ← hc2] at hcut
    have HC : Hid (∀ z, Frm [] w z → Calls Try.prog 33 #[.slice (some x2) n2 c2] z (RetLd z (X.drop k))) := Lib.hid (fun z hz => ldclone_any x2 n2 c2 (X.drop k) z (by
      have := (h.sub hz).drop (cap := cap) (by omega) k
      rwa [hx2] at this) (by rw [List.length_drop]; omega) (by omega))
    have hk0 : ¬ (k : Int) < 0 := by omega
    obtain ⟨pl, pe⟩ := p
    unfold Ps.val
    unfold LRet at HI
    clear h hn hc hle hlt hn2 hc2 hx2
    have HG := Lib.hid hg
    go_enter Try.func27, Try.ntmps27
    go_wp2_with fail
    rw [← hw1, ← hg]
    clear hw1 hg
    (with_reducible refine HI.out.mono ?_)
    rintro e w2 ⟨rfl, hf2⟩
    have F2 : Hid (Frm [] w w2) := Lib.hid (F1.out.trans hf2 (by simp) (by simp))
    clear hf2
    go_wp2_with fail
    (with_reducible refine (HC.out _ F2.out).mono ?_)
    rintro e w3 ⟨a3, c3, rfl, ho, hf3⟩
    have F3 : Hid (Frm [] w w3) := Lib.hid (F2.out.trans hf3 (by simp) (by simp))
    have O3 : Hid (LdOwn w3 w.heap.size 32 [] a3 c3 (X.drop k)) := Lib.hid ⟨⟨ho.own.1, by
      rcases ho.own.2 with h | ⟨g, cp, cur, hv, hb, r⟩
      · exact .inl h
      · exact .inr ⟨g, cp, cur, hv, Nat.le_trans F2.out.size hb, r⟩⟩, ho.fits, ho.away⟩
    clear hf3 ho
    go_wp2
    go_ret
    exact ⟨a3, c3, by rw [List.length_drop]; rfl, O3.out, F3.out⟩
  · rw [if_neg hlt] at HI
    have hd : X.drop k = [] := List.drop_eq_nil_of_le (by omega)
    rw [hd]
    obtain ⟨pl, pe⟩ := p
    unfold Ps.val
    unfold LRet at HI
    clear h hn hc hle hlt hd
    go_enter Try.func27, Try.ntmps27
    go_wp2_with fail
    rw [← hw1, ← hg]
    clear hw1 hg
    (with_reducible refine HI.out.mono ?_)
    rintro e w2 ⟨rfl, hf2⟩
    have F2 : Hid (Frm [] w w2) := Lib.hid (F1.out.trans hf2 (by simp) (by simp))
    clear hf2
    go_wp2
    go_ret
    exact ⟨none, 0, rfl, LdOwn.nil _ _ _ _, F2.out⟩
end Go.Proofs.Ytimmoencmmpkdaa
