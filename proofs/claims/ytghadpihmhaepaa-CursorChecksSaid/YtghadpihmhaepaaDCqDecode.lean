/- Contract of cursor.Decode. -/
import Derived.Test.YtghadpihmhaepaaDCqTake
import Derived.Test.YtghadpihmhaepaaCD
namespace Go.Proofs.Ytghadpihmhaepaa
open Go.RowKit
set_option maxRecDepth 100000
theorem enters_cqd (args : Array Value) (w : World) : (callFunc 62 args).run Try.prog w = .ok (.enter 62 args) w := by
  kernel_rfl
/-- What by leaves. -/
def CqBy (w1 : World) (F : List Nat) (x rb cb db : Nat) (l : List Nat) (e : Ending) (w2 : World) : Prop :=
  (∃ c : Nat, ((pCrs l = none ∧ c = 4) ∨ (∃ C m, pCrs l = some (C, m) ∧ ¬ OkC C ∧ c = 23)) ∧ Thrown w1 rb cb c e w2) ∨
  (∃ (D : Ps) (a : Option Addr) (n cap : Nat) (Z : List Hx) (m : List Nat), pCrs l = some (⟨D, hels Z⟩, m) ∧ OkC ⟨D, hels Z⟩ ∧ e = .returned (.tuple #[]) ∧ Whole w2 x 28 #[.int .u64 (D.l : Nat), .int .u64 (D.e : Nat), .slice a n cap] ∧ Rdr w2 rb cb db m ∧ Frm [rb, x] w1 w2 ∧ HxL w2 F a Z ∧ Tkn w2 a n cap Z ∧ D.fits)
set_option maxHeartbeats 4000000 in
theorem cqby_any {w1 : World} {rb cb db x : Nat} {l : List Nat} (F : List Nat) (h : Rdr w1 rb cb db l) (hdb : db < w1.heap.size) (hx : Whole w1 x 28 #[.int .u64 0, .int .u64 0, .slice none 0 0]) (hn : x ≠ rb ∧ x ≠ cb ∧ x ≠ db) (hF : ∀ y ∈ F, y < w1.heap.size) :
    Calls Try.prog 62 #[.pointer (some ⟨rb, 0, none⟩), .pointer (some ⟨x, 0, none⟩)] w1 (CqBy w1 F x rb cb db l) := by
  have TK := Lib.hid (cqtake_any (x :: F) h hdb (fun y hy => by
    rcases List.mem_cons.1 hy with rfl | h1
    · exact hx.lt
    · exact hF y h1))
  have HX := Lib.hid hx
  have HN := Lib.hid hn
  obtain ⟨Q, hQ⟩ : ∃ Q, Q = CqBy w1 F x rb cb db l := ⟨_, rfl⟩
  rw [← hQ]
  have HQ := Lib.hid hQ; clear hQ h hdb hx hn hF
  unfold TakeE at TK
  go_enter Try.func62, Try.ntmps62
  go_wp2_with fail
  (with_reducible refine TK.out.mono ?_)
  rintro e w2 (⟨h1, ht⟩ | ⟨C, m, h1, h2, ht⟩ | ⟨D, a, n, cap, Z, m, h1, h2, rfl, hr, hf, hl, htk, hd⟩)
  · have hb : Q e w2 := by rw [HQ.out]; exact .inl ⟨4, .inl ⟨h1, rfl⟩, ht⟩
    obtain ⟨rfl, _⟩ := ht
    exact ⟨rfl, hb⟩
  · have hb : Q e w2 := by rw [HQ.out]; exact .inl ⟨23, .inr ⟨C, m, h1, h2, rfl⟩, ht⟩
    obtain ⟨rfl, _⟩ := ht
    exact ⟨rfl, hb⟩
  · have b2 := hf.out.whole HX.out (by have := HN.out; simp; omega)
    have x0 := b2.cell 0
    have x1 := b2.cell 1
    have x2 := b2.cell 2
    have k0 := b2.free 0
    have k1 := b2.free 1
    have k2 := b2.free 2
    simp only [List.getElem?_toArray, List.getElem?_cons_zero, List.getElem?_cons_succ] at x0 x1 x2
    have FIN : Hid (Q (.returned (.tuple #[])) (((w2.setCell ⟨x, 0, none⟩ (.int .u64 (D.l : Nat))).setCell ⟨x, 1, none⟩ (.int .u64 (D.e : Nat))).setCell ⟨x, 2, none⟩ (.slice a n cap))) := Lib.hid (by
      have FG : Frm [x] w2 (((w2.setCell ⟨x, 0, none⟩ (.int .u64 (D.l : Nat))).setCell ⟨x, 1, none⟩ (.int .u64 (D.e : Nat))).setCell ⟨x, 2, none⟩ (.slice a n cap)) := (((Frm.refl _ _).setCell (.inl (by simp)) _).setCell (.inl (by simp)) _).setCell (.inl (by simp)) _
      rw [HQ.out]
      have hn := HN.out
      have hl2 := hl.out.keep FG (F' := F) (fun y hy => .inl (by simp at hy; simp [hy])) (fun y hy => .inl (by simp [hy]))
      refine .inr ⟨D, a, n, cap, Z, m, h1, h2, rfl, ?_, hr.out.keep FG (by simp; omega) (by simp; omega) (by simp; omega), hf.out.trans FG (by simp) (by simp), hl2, ⟨hl2.keep (S := []) (Frm.refl _ _) (by simp) (by simp), htk.out.len, htk.out.few, htk.out.rgs⟩, hd⟩
      have := ((b2.put 0 (.int .u64 (D.l : Nat))).put 1 (.int .u64 (D.e : Nat))).put 2 (.slice a n cap)
      simpa using this)
    unfold crsV
    clear hr hf hl htk hd h1 h2 b2
    go_wp2
    go_end0
    exact FIN.out
/-- What Decode answers. -/
def DecE (w : World) (l : List Nat) (e : Ending) (w' : World) : Prop :=
  ∃ (code : Nat) (D : Ps) (a : Option Addr) (n cap : Nat) (Z : List Hx), DecC l code ⟨D, hels Z⟩ ∧ e = .returned (.tuple #[crsV D a n cap, .int .i64 (code : Nat)]) ∧ Hid (Frm [] w w') ∧ Hid (Tkn w' a n cap Z) ∧ D.fits
set_option maxHeartbeats 8000000 in
theorem cqdecode_any (a : Option Addr) (n cap : Nat) (l : List Nat) (w : World) (hl : Bytes w a l) (hn : n = l.length) (hnil : a = none → cap = 0) (hfit : n ≤ 140737488355328) :
    Calls Try.prog 31 #[.slice a n cap] w (DecE w l) := by
  obtain ⟨w0, hw0⟩ : ∃ w0, w0 = (w.alloc (.cells #[.int .u64 0, .int .u64 0, .slice none 0 0] 28)).alloc (.cells #[.int .u64 0, .int .u64 0, .slice none 0 0] 28) := ⟨_, rfl⟩
  obtain ⟨g, hg⟩ : ∃ g, g = w.heap.size := ⟨_, rfl⟩
  have F0 : Hid (Frm [] w w0) := Lib.hid (by rw [hw0]; exact ((Frm.refl _ _).alloc _).alloc _)
  have B0 : Hid (Whole w0 g 28 #[.int .u64 0, .int .u64 0, .slice none 0 0]) := Lib.hid (by rw [hw0, hg]; exact (Whole.made _ _ _).alloc _)
  have B1 : Hid (Whole w0 (g + 1) 28 #[.int .u64 0, .int .u64 0, .slice none 0 0]) := Lib.hid (by
    rw [hw0, hg]
    have := Whole.made (w.alloc (.cells #[.int .u64 0, .int .u64 0, .slice none 0 0] 28)) 28 #[.int .u64 0, .int .u64 0, .slice none 0 0]
    rwa [World.size_alloc] at this)
  have GS : Hid (g = w.heap.size) := Lib.hid hg
  have HL0 := F0.out.bytes hl (by simp)
  have BY : ∀ w1 rb cb db, Told w0 w1 rb cb db l → Calls Try.prog 62 (#[.pointer (some ⟨rb, 0, none⟩)] ++ #[.pointer (some ⟨g + 1, 0, none⟩)]) w1 (CqBy w1 [g + 1, g, w0.heap.size, w0.heap.size + 1] (g + 1) rb cb db l) := fun w1 rb cb db ht => by
    have h1 := B1.out.lt
    have h2 := ht.hr
    have h3 := ht.hc
    have h4 := ht.hd
    have h5 := ht.two
    exact cqby_any _ ht.rdr ht.dlt (ht.frm.whole B1.out (by simp)) (by omega) (fun y hy => by simp at hy; omega)
  -- what Read answers
  have RD : Hid (Calls Try.prog 61 #[.slice a n cap, .func (.func 62) #[] #[.pointer (some ⟨g + 1, 0, none⟩)]] w0 (fun e w' => ∃ (code : Nat) (D : Ps) (aD : Option Addr) (nD cD : Nat) (Z : List Hx), e = .returned (.int .i64 (code : Nat)) ∧ Hid (DecC l code (if code = 0 then ⟨D, hels Z⟩ else ⟨⟨0, 0⟩, []⟩)) ∧ Hid (code = 0 → Whole w' (g + 1) 28 #[.int .u64 (D.l : Nat), .int .u64 (D.e : Nat), .slice aD nD cD] ∧ HxL w' [g] aD Z ∧ Tkn w' aD nD cD Z ∧ D.fits) ∧ Hid (Frm [g + 1] w0 w'))) := Lib.hid (by
    have hgl := B1.out.lt
    cases hp : pCrs l with
    | none =>
      refine (read_throw8 62 #[.pointer (some ⟨g + 1, 0, none⟩)] a n cap l w0 (fun w2 => Frm [g + 1] w0 w2) (fun c => c = ((4 : Nat) : Int)) HL0 hn hnil hfit enters_cqd (fun w1 rb cb db ht => (BY w1 rb cb db ht).mono ?_)).mono ?_
      · rintro e w2 (⟨c, hc, ht2⟩ | ⟨D, a, n, cap, Z, m, h1, _⟩)
        · have hc4 : c = 4 := by
            rcases hc with ⟨_, h⟩ | ⟨C, m, h, _⟩
            · exact h
            · rw [hp] at h; cases h
          subst hc4
          have h2 := ht.hr
          have h3 := ht.hc
          exact ⟨_, rfl, ht2.1, [rb, cb], ht.frm.trans ht2.2.2 (by simp) (fun y hy => .inr (by simp at hy; omega)), ht2.2.1, ht2.2.2, fun y hy => by simp at hy; omega⟩
        · rw [hp] at h1; cases h1
      · rintro e w' ⟨w2, c, T, rfl, ⟨hq, hc⟩, hT, hTm⟩
        subst hc
        exact ⟨4, ⟨0, 0⟩, none, 0, 0, [], rfl, Lib.hid (.inl ⟨hp, rfl, rfl⟩), Lib.hid (fun h => by cases h), Lib.hid (hq.trans hT (fun y hy => hy) (fun y hy => .inr (hTm y hy).1))⟩
    | some r =>
      obtain ⟨C, m⟩ := r
      by_cases hok : OkC C
      rotate_left 1
      · refine (read_throw8 62 #[.pointer (some ⟨g + 1, 0, none⟩)] a n cap l w0 (fun w2 => Frm [g + 1] w0 w2) (fun c => c = ((23 : Nat) : Int)) HL0 hn hnil hfit enters_cqd (fun w1 rb cb db ht => (BY w1 rb cb db ht).mono ?_)).mono ?_
        · rintro e w2 (⟨c, hc, ht2⟩ | ⟨D, a, n, cap, Z, m', h1, h2, _⟩)
          · have hc4 : c = 23 := by
              rcases hc with ⟨h, _⟩ | ⟨C', m', h, _, h2⟩
              · rw [hp] at h; cases h
              · exact h2
            subst hc4
            have h2 := ht.hr
            have h3 := ht.hc
            exact ⟨_, rfl, ht2.1, [rb, cb], ht.frm.trans ht2.2.2 (by simp) (fun y hy => .inr (by simp at hy; omega)), ht2.2.1, ht2.2.2, fun y hy => by simp at hy; omega⟩
          · rw [hp] at h1; cases h1; exact absurd h2 hok
        · rintro e w' ⟨w2, c, T, rfl, ⟨hq, hc⟩, hT, hTm⟩
          subst hc
          exact ⟨23, ⟨0, 0⟩, none, 0, 0, [], rfl, Lib.hid (.inr (.inl ⟨C, m, hp, hok, rfl, rfl⟩)), Lib.hid (fun h => by cases h), Lib.hid (hq.trans hT (fun y hy => hy) (fun y hy => .inr (hTm y hy).1))⟩
      · refine (read_ret8 62 #[.pointer (some ⟨g + 1, 0, none⟩)] a n cap l w0 (fun w2 rest => rest = m ∧ ∃ (D : Ps) (aD : Option Addr) (nD cD : Nat) (Z : List Hx), C = ⟨D, hels Z⟩ ∧ Whole w2 (g + 1) 28 #[.int .u64 (D.l : Nat), .int .u64 (D.e : Nat), .slice aD nD cD] ∧ HxL w2 [g + 1, g, w0.heap.size, w0.heap.size + 1] aD Z ∧ Tkn w2 aD nD cD Z ∧ D.fits ∧ Frm [g + 1] w0 w2) HL0 hn hnil hfit enters_cqd (fun w1 rb cb db ht => (BY w1 rb cb db ht).mono ?_)).mono ?_
        · rintro e w2 (⟨c, hc, ht2⟩ | ⟨D, a, n, cap, Z, m', h1, h2, he, hw, hr, hf, hx, htk, hd⟩)
          · exfalso
            rcases hc with ⟨h, _⟩ | ⟨C', m', h, h2, _⟩
            · rw [hp] at h; cases h
            · rw [hp] at h; cases h; exact h2 hok
          · rw [hp] at h1
            cases h1
            have h5 := ht.hr
            exact ⟨he, m, [rb, g + 1], ⟨rfl, D, a, n, cap, Z, rfl, hw, hx, htk, hd, ht.frm.trans hf (by simp) (fun y hy => by
              simp at hy
              rcases hy with rfl | rfl
              · exact .inr h5
              · exact .inl (by simp))⟩, hr, hf, fun y hy => by simp at hy; omega⟩
        · rintro e w' ⟨w2, c, T, rfl, ⟨rest, ⟨rfl, D, aD, nD, cD, Z, rfl, hw, hx, htk, hd, hfr⟩, hc⟩, hT, hTm⟩
          have hfw : Frm [g + 1] w0 w' := hfr.trans hT (fun y hy => hy) (fun y hy => .inr (hTm y hy).1)
          have hTx : ∀ y ∈ T, y ∈ [g + 1, g, w0.heap.size, w0.heap.size + 1] := fun y hy => by
            have := hTm y hy
            simp
            omega
          have hx2 := hx.keep hT (F' := [g]) (fun y hy => .inl (hTx y hy)) (fun y hy => .inl (by simp at hy; simp [hy]))
          have hwT : Whole w' (g + 1) 28 #[.int .u64 (D.l : Nat), .int .u64 (D.e : Nat), .slice aD nD cD] := hT.whole hw (fun hm => by have := hTm _ hm; omega)
          by_cases hm0 : rest = []
          · rw [if_pos hm0] at hc
            subst hm0
            subst hc
            exact ⟨0, D, aD, nD, cD, Z, rfl, Lib.hid (.inr (.inr (.inr ⟨_, hp, hok, rfl, rfl⟩))), Lib.hid (fun _ => ⟨hwT, hx2, ⟨hx2.keep (S := []) (Frm.refl _ _) (by simp) (by simp), htk.len, htk.few, htk.rgs⟩, hd⟩), Lib.hid hfw⟩
          · rw [if_neg hm0] at hc
            subst hc
            exact ⟨5, D, aD, nD, cD, Z, rfl, Lib.hid (.inr (.inr (.inl ⟨_, rest, hp, hok, hm0, rfl, rfl⟩))), Lib.hid (fun h => by cases h), Lib.hid hfw⟩)
  obtain ⟨Q, hQ⟩ : ∃ Q, Q = DecE w l := ⟨_, rfl⟩
  rw [← hQ]
  have HQ := Lib.hid hQ; clear hQ BY HL0 hl hn hnil hfit
  have V0 : Hid (∀ (z : World) (ul ue : Nat) (a : Option Addr) (sl c : Nat) (code : Int) (tm : Array Value), tm.getD 2 undef = .pointer (some ⟨g, 0, none⟩) → tm.getD 3 undef = .int .i64 code → Whole z g 28 #[.int .u64 (ul : Nat), .int .u64 (ue : Nat), .slice a sl c] → (results Try.f31 tm).run Try.prog z = .ok (.tuple #[.agg #[.int .u64 (ul : Nat), .int .u64 (ue : Nat), .slice a sl c], .int .i64 code]) z) := Lib.hid (fun z ul ue a sl c code tm h6 h7 hw => by
    have c0 := hw.cell 0
    have c1 := hw.cell 1
    have c2 := hw.cell 2
    simp at c0 c1 c2
    have h6' : tm[2]?.getD undef = .pointer (some ⟨g, 0, none⟩) := by simpa using h6
    have h7' : tm[3]?.getD undef = .int .i64 code := by simpa using h7
    simp [results, Try.results31, go_sem, c0, c1, c2, h6', h7'])
  have HW0 := Lib.hid hw0; clear hw0
  have HG := Lib.hid hg; clear hg
  go_enter Try.func31, Try.ntmps31
  go_upto_region 2 with (fail)
  rw [← HW0.out, ← HG.out]
  go_wp2_with fail
  (with_reducible refine RD.out.mono ?_)
  rintro e w3 ⟨code, D, aD, nD, cD, Z, rfl, HDC, HWH, HFR⟩
  have B03 : Hid (Whole w3 g 28 #[.int .u64 0, .int .u64 0, .slice none 0 0]) := Lib.hid (HFR.out.whole B0.out (by simp))
  have FW3 : Hid (Frm [] w w3) := Lib.hid (F0.out.trans HFR.out (by simp) (fun y hy => .inr (by simp at hy; have := GS.out; omega)))
  have y0 := B03.out.cell 0
  have y1 := B03.out.cell 1
  have y2 := B03.out.cell 2
  have k0 := B03.out.free 0
  have k1 := B03.out.free 1
  have k2 := B03.out.free 2
  simp only [List.getElem?_toArray, List.getElem?_cons_zero, List.getElem?_cons_succ] at y0 y1 y2
  by_cases hc0 : code = 0
  · subst hc0
    obtain ⟨hw, hx, htk, hd⟩ := HWH.out rfl
    have HDC0 : Hid (DecC l 0 ⟨D, hels Z⟩) := Lib.hid (by have := HDC.out; rwa [if_pos rfl] at this)
    have x0 := hw.cell 0
    have x1 := hw.cell 1
    have x2 := hw.cell 2
    simp only [List.getElem?_toArray, List.getElem?_cons_zero, List.getElem?_cons_succ] at x0 x1 x2
    have FG : Hid (Frm [g] w3 (((w3.setCell ⟨g, 0, none⟩ (.int .u64 (D.l : Nat))).setCell ⟨g, 1, none⟩ (.int .u64 (D.e : Nat))).setCell ⟨g, 2, none⟩ (.slice aD nD cD))) := Lib.hid ((((Frm.refl _ _).setCell (.inl (by simp)) _).setCell (.inl (by simp)) _).setCell (.inl (by simp)) _)
    have DD : Hid (Whole (((w3.setCell ⟨g, 0, none⟩ (.int .u64 (D.l : Nat))).setCell ⟨g, 1, none⟩ (.int .u64 (D.e : Nat))).setCell ⟨g, 2, none⟩ (.slice aD nD cD)) g 28 #[.int .u64 (D.l : Nat), .int .u64 (D.e : Nat), .slice aD nD cD]) := Lib.hid (by
      have := ((B03.out.put 0 (.int .u64 (D.l : Nat))).put 1 (.int .u64 (D.e : Nat))).put 2 (.slice aD nD cD)
      simpa using this)
    have FIN : Hid (Q (.returned (.tuple #[.agg #[.int .u64 (D.l : Nat), .int .u64 (D.e : Nat), .slice aD nD cD], .int .i64 0])) (((w3.setCell ⟨g, 0, none⟩ (.int .u64 (D.l : Nat))).setCell ⟨g, 1, none⟩ (.int .u64 (D.e : Nat))).setCell ⟨g, 2, none⟩ (.slice aD nD cD))) := Lib.hid (by
      rw [HQ.out]
      exact ⟨0, D, aD, nD, cD, Z, HDC0.out, rfl, Lib.hid (FW3.out.trans FG.out (by simp) (fun y hy => .inr (by simp at hy; have := GS.out; omega))), Lib.hid ⟨hx.keep FG.out (fun y hy => .inl hy) (by simp), htk.len, htk.few, htk.rgs⟩, hd⟩)
    clear hw hx htk hd HDC HWH
    go_wp2
    refine bodyPost_ret (V0.out _ D.l D.e aD nD cD 0 _ rfl rfl DD.out) rfl ?_
    exact FIN.out
  · have b1 : ((code : Int) != 0) = true := by simp; omega
    have b2 : ((code : Int) == 0) = false := by simp; omega
    have HDC0 : Hid (DecC l code ⟨⟨0, 0⟩, hels []⟩) := Lib.hid (by have := HDC.out; rwa [if_neg hc0] at this)
    clear hc0 HDC HWH
    have FG : Hid (Frm [g] w3 (((w3.setCell ⟨g, 0, none⟩ (.int .u64 0)).setCell ⟨g, 1, none⟩ (.int .u64 0)).setCell ⟨g, 2, none⟩ (.slice none 0 0))) := Lib.hid ((((Frm.refl _ _).setCell (.inl (by simp)) _).setCell (.inl (by simp)) _).setCell (.inl (by simp)) _)
    have DD : Hid (Whole (((w3.setCell ⟨g, 0, none⟩ (.int .u64 0)).setCell ⟨g, 1, none⟩ (.int .u64 0)).setCell ⟨g, 2, none⟩ (.slice none 0 0)) g 28 #[.int .u64 ((0 : Nat) : Int), .int .u64 ((0 : Nat) : Int), .slice none 0 0]) := Lib.hid (by
      have := ((B03.out.put 0 (.int .u64 0)).put 1 (.int .u64 0)).put 2 (.slice none 0 0)
      simpa using this)
    have FIN : Hid (Q (.returned (.tuple #[.agg #[.int .u64 ((0 : Nat) : Int), .int .u64 ((0 : Nat) : Int), .slice none 0 0], .int .i64 (code : Nat)])) (((w3.setCell ⟨g, 0, none⟩ (.int .u64 0)).setCell ⟨g, 1, none⟩ (.int .u64 0)).setCell ⟨g, 2, none⟩ (.slice none 0 0))) := Lib.hid (by
      rw [HQ.out]
      exact ⟨code, ⟨0, 0⟩, none, 0, 0, [], HDC0.out, rfl, Lib.hid (FW3.out.trans FG.out (by simp) (fun y hy => .inr (by simp at hy; have := GS.out; omega))), Lib.hid ⟨HxL.nil _ _ _, rfl, by decide, by simp⟩, ⟨by decide, by decide⟩⟩)
    go_wp2
    refine bodyPost_ret (V0.out _ 0 0 none 0 0 (code : Int) _ rfl rfl DD.out) rfl ?_
    exact FIN.out
end Go.Proofs.Ytghadpihmhaepaa
