/- The walk of the law RangesAdds. -/
import Derived.Test.YtolmpmihchjmlaaRgLaws2
namespace Go.Proofs.Ytolmpmihchjmlaa
open Go.RowKit

theorem step_appG {P : Program} {w : World} {ops : Array Oper} {o : Oper} {a : Act} {K : Act → World → Prop} {Q : Exit → Act → World → Prop} {E : Prop} (hw : Region.wanted o (yielded ops a.tmps) = true) (s x : Operand) (t : TypeId)
    (ho : o.op = .call { callee := .builtin .append, args := #[s, x], argTypes := #[t, t] })
    (base : Nat) (e : TypeId) (i : TypeInfo) (ht : P.underlying t = some (.slice e)) (hi : P.info? e = some i) (hz : i.zero = some (.agg #[.int .u64 0, .int .u64 0]))
    (hsize : i.size = 2) (hby : i.bytes = 16) (v : Value) (n : Nat) (xs : List Value) (hs : a.eval s = v) (hown : w.ownsRow base e 2 v n xs)
    (ad : Option Addr) (m c : Nat) (l : List Rg) (hx : a.eval x = .slice ad m c) (hB : Rr w ad l) (hm : m = l.length) (hnil : ad = none → c = 0)
    (hfit : n + m ≤ 1000000) (hbase : base ≤ w.heap.size) (k : Nat) (hk : n + m = k)
    (h : ∀ a' cap' w', AppR w w' base e v n m xs l a' cap' → K (a.put o.dst (.slice a' k cap')) w') :
    if Region.wanted o (yielded ops a.tmps) = true then Oper.wp P o a w K Q else E := by
  subst hk
  rw [if_pos hw]
  obtain ⟨a', cap', w', hr, h2⟩ := run_appR (P := P) base t o.type e i ht hi hz hsize hby v n xs hown ad m c l hB hm hnil hfit hbase
  unfold Oper.wp execOp
  simp only [ho, resolve, invoke, builtin, Sem.run_bind, Sem.run_pure, Result.andThen_ok, List.map_toArray, List.map_cons, List.map_nil, hs, hx, hr]
  exact h a' cap' w' h2

theorem litR (v : World) (B : Nat) (hB : B ≤ v.heap.size) : (v.alloc (.cells #[] 51)).ownsRow B 51 2 (.slice (some ⟨v.heap.size, 0, none⟩) 0 0) 0 (fl []) := World.ownsRow_lit v #[] 0 hB (by unfold maxLen; omega) rfl
theorem litR2 (v : World) (o : Obj) (B : Nat) (hB : B ≤ v.heap.size) : ((v.alloc (.cells #[] 51)).alloc o).ownsRow B 51 2 (.slice (some ⟨v.heap.size, 0, none⟩) 0 0) 0 (fl []) := World.ownsRow.alloc (litR v B hB) o
theorem litR3 (v : World) (o : Obj) (B : Nat) (hB : B ≤ v.heap.size) : ((v.alloc o).alloc (.cells #[] 51)).ownsRow B 51 2 (.slice (some ⟨v.heap.size + 1, 0, none⟩) 0 0) 0 (fl []) := by
  have h := World.ownsRow_lit (base := B) (size := 2) (e := 51) (v.alloc o) #[] 0 (by simp; omega) (by unfold maxLen; omega) rfl
  have e : fl [] = [] := rfl
  rw [e]
  simpa using h

set_option maxRecDepth 100000 in
set_option maxHeartbeats 8000000 in
theorem rangesAdds_walk (a : Option Addr) (n cap : Nat) (l : List Rg) (r1 r2 : Nat) (w : World) (h : SlIn w ⟨a, cap, l⟩) (hn : n = l.length) (hb1 : r1 < 18446744073709551616) (hb2 : r2 < 18446744073709551616) :
    Calls Try.prog 5 #[.slice a n cap, .agg #[.int .u64 r1, .int .u64 r2]] w (TrueOf w) := by
  obtain ⟨i0, hi0, hz0, hz1, hz2⟩ := info_parts Try.info51
  have HI0 := Lib.hid hi0; clear hi0
  have HZ0 := Lib.hid hz0; clear hz0
  have HZ1 := Lib.hid hz1; clear hz1
  have HZ2 := Lib.hid hz2; clear hz2
  obtain ⟨W0, hW0⟩ : ∃ W0, W0 = w.alloc (.cells #[.int .u64 r1, .int .u64 r2] 51) := ⟨_, rfl⟩
  obtain ⟨g3, hg3⟩ : ∃ g3, g3 = w.heap.size := ⟨_, rfl⟩
  have h3 : Whole W0 g3 51 #[.int .u64 r1, .int .u64 r2] := by rw [hW0, hg3]; exact Whole.made _ _ _
  have F0 : Hid (Frm [] w W0) := by rw [hW0]; exact (Frm.refl _ _).alloc _
  have CEL : Hid (∀ w', Frm [] W0 w' → w'.cell? ⟨g3, 0, none⟩ = some (.int .u64 (r1 : Nat)) ∧ w'.cell? ⟨g3, 1, none⟩ = some (.int .u64 (r2 : Nat))) := fun w' hf => ⟨(hf.whole h3 (by simp)).cell 0, (hf.whole h3 (by simp)).cell 1⟩
  have H : Hid (∀ w', Frm [] W0 w' → SlIn w' ⟨a, cap, l⟩) := fun w' hf => (h.keep F0.out).keep hf
  have HN := Lib.hid hn
  have HW0 := Lib.hid hW0
  have HG3 := Lib.hid hg3
  have HB1 := Lib.hid hb1
  have HB2 := Lib.hid hb2
  clear h hn hW0 hg3 h3
  go_enter Try.func5, Try.ntmps5
  go_wp2_with fail
  rw [← HW0.out, ← HG3.out]
  refine (awake3_any W0).mono ?_
  rintro e w1 ⟨rfl, hf⟩
  have F1 := Lib.hid hf; clear hf
  go_wp2_with fail
  refine (rightL_any (H.out _ F1.out) HN.out).mono ?_
  rintro e w2 ⟨ax, m, cx, x, rfl, XM, XS, XR, _, hm, hf⟩
  have F2 : Hid (Frm [] W0 w2) := frm_tr F1.out hf.out
  clear hf F1 H HN
  have A2 : Hid (Frm [] w2 (w2.alloc (.cells #[] 51))) := (Frm.refl _ _).alloc _
  go_wp2_with (at_builtin; refine wpList_appR rfl (.tmp 13) (.tmp 14) 44 rfl w2.heap.size 51 i0 Try.underlying44 HI0.out HZ0.out HZ1.out HZ2.out _ 0 (fl []) rfl (litR w2 _ (Nat.le_refl _)) _ m _ x rfl (XS.out.keep A2.out).1 XM.out XS.out.2.1 (by omega) (by simp) ?_)
  intro a5 c5 w5 happ
  have F5 : Hid (Frm [] w2 w5) := frm_app A2.out happ (fun x hx => .inr (by cases hx; simp))
  have O5 := Lib.hid (own_app happ rfl XM.out)
  rw [List.nil_append] at O5
  clear happ
  have hb5 : w2.heap.size ≤ w5.heap.size := F5.out.size
  have A5 : Hid (Frm [] w2 (w5.alloc (.cells #[.int .u64 7, .int .u64 9] 51))) := F5.out.alloc _
  have ONE : Hid (Rr (w5.alloc (.cells #[.int .u64 7, .int .u64 9] 51)) (some ⟨w5.heap.size, 0, none⟩) [((7, 9) : Rg)]) := one_rg (7, 9) (by decide)
  go_wp2_with (at_builtin; refine wpList_appR rfl (.tmp 15) (.tmp 17) 44 rfl w2.heap.size 51 i0 Try.underlying44 HI0.out HZ0.out HZ1.out HZ2.out _ m (fl x) rfl ?own2 _ 1 1 [((7, 9) : Rg)] rfl ONE.out rfl (by intro h; cases h) (by omega) (by simp; omega) ?_)
  case own2 => have h := O5.out.keep ((Frm.refl [] w5).alloc (.cells #[.int .u64 7, .int .u64 9] 51)) (by simp); unfold OwnR at h; rw [← XM.out] at h; exact h
  intro a6 c6 w6 happ
  have F6 : Hid (Frm [] w2 w6) := frm_app A5.out happ (fun x hx => .inr (O5.out.lt x hx).1)
  have O6 := Lib.hid (own_app happ XM.out rfl)
  clear happ hb5 A5 ONE
  obtain ⟨g6, rfl⟩ := O6.out.addr (by simp)
  have BD : Hid (Bd (x ++ [((7, 9) : Rg)])) := Bd.append XS.out.1.1 (by intro p hp; simp at hp; subst hp; decide)
  have IN1 : Hid (SlIn w6 ⟨some ⟨g6, 0, none⟩, c6, x ++ [((7, 9) : Rg)]⟩) := O6.out.rr BD.out
  have hc6 : m + 1 ≤ c6 := by have := IN1.out.2.2.1; simp only [List.length_append, List.length_singleton, ← XM.out] at this; exact this
  have IN : Hid (SlIn w6 ⟨some ⟨g6, 0, none⟩, c6, x⟩) := ⟨by have := IN1.out.1.take x.length; rw [List.take_left] at this; exact this, IN1.out.2.1, by show x.length ≤ c6; rw [← XM.out]; omega, IN1.out.2.2.2⟩
  have hcut : cutR (some ⟨g6, 0, none⟩) c6 0 = some ⟨g6, 0, none⟩ := by unfold cutR; rw [if_neg (by omega)]; simp [addr_add]
  have cH := fun W => run_cutR_h W (some ⟨g6, 0, none⟩) (m + 1) c6 m (m : Int) rfl (by omega)
  rw [hcut] at cH
  have F6' : Hid (Frm [] W0 w6) := frm_tr F2.out F6.out
  have X6 : Hid (SlIn w6 ⟨ax, cx, x⟩) := XS.out.keep F6.out
  have c0 := (CEL.out w6 F6'.out).1
  have c1 := (CEL.out w6 F6'.out).2
  have AD := Lib.hid (fun (W : World) (hf : Frm [] w6 W) => add_any (r1 := r1) (r2 := r2) (IN.out.keep hf) XR.out XM.out (by omega) HB1.out HB2.out)
  have RM := Lib.hid (fun (W : World) (hf : Frm [] w6 W) => remove_any (r1 := r1) (r2 := r2) (IN.out.keep hf) XR.out XM.out (by omega) HB1.out HB2.out)
  clear XS F2 F5 O5 F6 O6 A2
  go_wp2
  go_region_held3 (fun w' => w'.cell? ⟨g3, 0, none⟩ = some (.int .u64 (r1 : Nat)) ∧ w'.cell? ⟨g3, 1, none⟩ = some (.int .u64 (r2 : Nat))) (first | go_keep | exact CEL.out _ (frm_tr F6'.out T2.out) | exact CEL.out _ (frm_tr F6'.out T1.out)) ((first
    | (go_at_call 31; (with_reducible refine (AD.out _ (Frm.drew1 w6)).mono ?_); rintro e u1 ⟨am, mm, cm, mo, rfl, MM, MS, MR, MQ, hmm, E1⟩; have T1 : Hid (Frm [] w6 u1) := frm_tr (Frm.drew1 w6) E1.out)
    | (go_at_call 32; (with_reducible refine (RM.out _ T1.out).mono ?_); rintro e u2 ⟨al, ml, cl, le, rfl, LM, LS, LR, LQ, hml, E2⟩; have T2 : Hid (Frm [] w6 u2) := frm_tr T1.out E2.out)))
  have F7 : Hid (Frm [] W0 u2) := frm_tr F6'.out T2.out
  have G7 : Hid (Frm [] w6 u2) := T2.out
  have MS7 : Hid (SlIn u2 ⟨am, cm, mo⟩) := MS.out.keep E2.out
  have IN2 : Hid (∀ W, Frm [] u2 W → SlIn W ⟨some ⟨g6, 0, none⟩, c6, x⟩) := fun W hf => (IN.out.keep G7.out).keep hf
  have X2 : Hid (∀ W, Frm [] u2 W → SlIn W ⟨ax, cx, x⟩) := fun W hf => (X6.out.keep G7.out).keep hf
  have hcl : ∀ W, Frm [] u2 W → W.cell? ⟨g3, 0, none⟩ = some (.int .u64 (r1 : Nat)) := fun W hf => (CEL.out W (frm_tr F7.out hf)).1
  have hcr : ∀ W, Frm [] u2 W → W.cell? ⟨g3, 1, none⟩ = some (.int .u64 (r2 : Nat)) := fun W hf => (CEL.out W (frm_tr F7.out hf)).2
  have IC : Hid (∀ W, Frm [] u2 W → W.cell? ⟨g6, 0 + m * 2, none⟩ = some (.int .u64 7) ∧ W.cell? ⟨g6, 0 + m * 2 + 1, none⟩ = some (.int .u64 9)) := fun W hf => by
    obtain ⟨b, off, hb, hc⟩ := ((IN1.out.keep G7.out).keep hf).1.2 (by simp)
    simp only [Option.some.injEq, Addr.mk.injEq] at hb
    obtain ⟨rfl, rfl, _⟩ := hb
    have := hc m (by rw [List.length_append, ← XM.out]; simp)
    have e : (x ++ [((7, 9) : Rg)]).getD m (0, 0) = (7, 9) := by rw [XM.out]; simp
    rw [e] at this
    exact this
  have hd0 : ∀ W, Frm [] u2 W → W.cell? ⟨g6, m * 2, none⟩ = some (.int .u64 7) := fun W hf => by have := (IC.out W hf).1; rw [Nat.zero_add] at this; exact this
  have hd1 : ∀ W, Frm [] u2 W → W.cell? ⟨g6, m * 2 + 1, none⟩ = some (.int .u64 9) := fun W hf => by have := (IC.out W hf).2; rw [Nat.zero_add] at this; exact this
  have cH1 := fun W => run_cutR_h W (some ⟨g6, 0, none⟩) m c6 (m + 1) ((m : Int) + 1) (by omega) hc6
  rw [hcut] at cH1
  have hwm : IntKind.i64.wrap ((m : Int) + 1) = (m : Int) + 1 := by rw [IntWalk.i64_in _ (by omega)]
  have hix : (m : Int) < (m : Int) + 1 := by omega
  have heq := eql_rg 7 9 7 9
  clear E1 E2 T1 T2 MS RM AD c0 c1 F6' IN IN1 X6 BD G7 cH hcut IC
  have MS2 : Hid (∀ W, Frm [] u2 W → SlIn W ⟨am, cm, mo⟩) := fun W hf => MS7.out.keep hf
  have LS2 : Hid (∀ W, Frm [] u2 W → SlIn W ⟨al, cl, le⟩) := fun W hf => LS.out.keep hf
  have XRR : Hid (∀ W, Frm [] u2 W → Rr W ax x) := fun W hf => (X2.out W hf).1
  have XNIL : Hid (ax = none → cx = 0) := (X2.out u2 (Frm.refl _ _)).2.1
  have XB : Hid (Bd x) := (X2.out u2 (Frm.refl _ _)).1.1
  clear MS7 LS
  have X0 : Hid (Bd [((r1, r2) : Rg)]) := by intro p hp; simp at hp; subst hp; exact ⟨HB1.out, HB2.out⟩
  have EQ1 : Hid (∀ s, Rt s → (∀ z, Mem s z ↔ Mem (x ++ [((r1, r2) : Rg)]) z ∧ ¬ Mem [] z) → mo = s) := fun s hs hq => rt_uniq MR.out hs (fun z => by rw [MQ.out z, hq z, mem_append, mem_cons]; simp [Mem.nil])
  have EQ2 : Hid (∀ s, Rt s → (∀ z, Mem s z ↔ Mem x z ∧ ¬ Mem [((r1, r2) : Rg)] z) → le = s) := fun s hs hq => rt_uniq LR.out hs (fun z => by rw [LQ.out z, hq z, mem_cons]; simp [Mem.nil])
  have ONE : Hid (∀ W : World, Rr (W.alloc (.cells #[.int .u64 r1, .int .u64 r2] 51)) (some ⟨W.heap.size, 0, none⟩) [((r1, r2) : Rg)]) := fun W => one_rg (r1, r2) ⟨HB1.out, HB2.out⟩
  have ONE2 : Hid (∀ W : World, Rr ((W.alloc (.cells #[] 51)).alloc (.cells #[.int .u64 r1, .int .u64 r2] 51)) (some ⟨W.heap.size + 1, 0, none⟩) [((r1, r2) : Rg)]) := fun W => by simpa using ONE.out (W.alloc (.cells #[] 51))
  have ONE3 : Hid (∀ W : World, Rr ((W.alloc (.cells #[.int .u64 r1, .int .u64 r2] 51)).alloc (.cells #[] 51)) (some ⟨W.heap.size, 0, none⟩) [((r1, r2) : Rg)]) := fun W => (ONE.out W).keep0 ((Frm.refl [] _).alloc _)
  have BD2 : Hid (Bd (x ++ [((r1, r2) : Rg)])) := Bd.append XB.out X0.out
  go_wp2
  go_region_held3 (fun w' => Frm [] u2 w') (repeat (first | assumption | apply Frm.drew | apply Frm.alloc | exact Frm.refl _ _)) ((first
    | (go_at_call 33; (with_reducible refine (same_sl (IN2.out _ (by assumption)) (X2.out _ (by assumption)) XM.out XM.out (by omega) (by omega) rfl).mono ?_); rintro e v1 ⟨rfl, E⟩; have T1 : Frm [] u2 v1 := frm_tr (by assumption) E)
    | (refine step_appG (by rfl) (.tmp 46) (.tmp 47) 44 rfl u2.heap.size 51 i0 Try.underlying44 HI0.out HZ0.out HZ1.out HZ2.out _ 0 (fl []) rfl (litR v1 _ T1.size) _ m _ x rfl (XRR.out _ (by assumption)) XM.out XNIL.out (by omega) (by refine Frm.size (S := []) (w := u2) ?_; assumption) m (Nat.zero_add m) ?_; intro a8 c8 w8 happ8; have T8 : Frm [] u2 w8 := frm_app (by assumption) happ8 (fun x hx => .inr (by cases hx; exact T1.size)); have OWN8 : Hid (w8.ownsRow u2.heap.size 51 2 (.slice a8 m c8) m (fl x)) := (by have h := happ8.own; rw [Nat.zero_add] at h; exact h))
    | (refine step_appG (by rfl) (.tmp 46) (.tmp 47) 44 rfl u2.heap.size 51 i0 Try.underlying44 HI0.out HZ0.out HZ1.out HZ2.out _ 0 (fl []) rfl (litR2 v1 _ _ T1.size) _ m _ x rfl (XRR.out _ (by assumption)) XM.out XNIL.out (by omega) (by refine Frm.size (S := []) (w := u2) ?_; assumption) m (Nat.zero_add m) ?_; intro a8 c8 w8 happ8; have T8 : Frm [] u2 w8 := frm_app (by assumption) happ8 (fun x hx => .inr (by cases hx; exact T1.size)); have OWN8 : Hid (w8.ownsRow u2.heap.size 51 2 (.slice a8 m c8) m (fl x)) := (by have h := happ8.own; rw [Nat.zero_add] at h; exact h); have H8 : Hid (Rr w8 (some ⟨v1.heap.size + 1, 0, none⟩) [((r1, r2) : Rg)]) := (ONE2.out v1).keep (frm_app (S := [v1.heap.size]) (Frm.refl _ _) happ8 (fun x hx => .inl (by cases hx; simp))) (fun _ x hx => by cases hx; simp))
    | (refine step_appG (by rfl) (.tmp 46) (.tmp 47) 44 rfl u2.heap.size 51 i0 Try.underlying44 HI0.out HZ0.out HZ1.out HZ2.out _ 0 (fl []) rfl (litR3 v1 _ _ T1.size) _ m _ x rfl (XRR.out _ (by assumption)) XM.out XNIL.out (by omega) (by refine Frm.size (S := []) (w := u2) ?_; assumption) m (Nat.zero_add m) ?_; intro a8 c8 w8 happ8; have T8 : Frm [] u2 w8 := frm_app (by assumption) happ8 (fun x hx => .inr (by cases hx; exact (Nat.le_succ_of_le T1.size))); have OWN8 : Hid (w8.ownsRow u2.heap.size 51 2 (.slice a8 m c8) m (fl x)) := (by have h := happ8.own; rw [Nat.zero_add] at h; exact h); have H8 : Hid (Rr w8 (some ⟨v1.heap.size, 0, none⟩) [((r1, r2) : Rg)]) := (ONE3.out v1).keep (frm_app (S := [v1.heap.size + 1]) (Frm.refl _ _) happ8 (fun x hx => .inl (by cases hx; simp))) (fun _ x hx => by cases hx; simp))
    | (refine step_appG (by rfl) (.tmp 48) (.tmp 50) 44 rfl u2.heap.size 51 i0 Try.underlying44 HI0.out HZ0.out HZ1.out HZ2.out _ m (fl x) rfl OWN8.out _ 1 1 [((r1, r2) : Rg)] rfl H8.out rfl (by intro h; cases h) (by omega) (by refine Frm.size (S := []) (w := u2) ?_; assumption) (m + 1) rfl ?_; intro a9 c9 w9 happ9; have T9 : Frm [] u2 w9 := frm_app (by assumption) happ9 (fun x hx => .inr (World.ownsRow.lt OWN8.out x.block (by rw [hx]; rfl)).1); have O9 : Hid (OwnR w9 u2.heap.size a9 c9 (x ++ [((r1, r2) : Rg)])) := own_app happ9 XM.out rfl)
    | (refine step_appG (by rfl) (.tmp 48) (.tmp 50) 44 rfl u2.heap.size 51 i0 Try.underlying44 HI0.out HZ0.out HZ1.out HZ2.out _ m (fl x) rfl (World.ownsRow.alloc OWN8.out _) _ 1 1 [((r1, r2) : Rg)] rfl (ONE.out w8) rfl (by intro h; cases h) (by omega) (by refine Frm.size (S := []) (w := u2) ?_; assumption) (m + 1) rfl ?_; intro a9 c9 w9 happ9; have T9 : Frm [] u2 w9 := frm_app (by assumption) happ9 (fun x hx => .inr (World.ownsRow.lt OWN8.out x.block (by rw [hx]; rfl)).1); have O9 : Hid (OwnR w9 u2.heap.size a9 c9 (x ++ [((r1, r2) : Rg)])) := own_app happ9 XM.out rfl)
    | (go_at_call 34; (with_reducible refine (set_any (n := m + 1) (cap := c9) (l := x ++ [((r1, r2) : Rg)]) (n' := 0) (cap' := 0) (a' := none) (l' := []) (O9.out.rr BD2.out).1 (by simp; have := XM.out; omega) (O9.out.rr BD2.out).2.1 (Rr.nil _ none) rfl (fun _ => rfl) (by omega)).mono ?_); rintro e w10 hgot; obtain ⟨az, ms, cz, sz, rfl, SM, SS, SR, SQ, hms, E⟩ := hgot.n; have T10 : Frm [] u2 w10 := frm_tr (by assumption) E.out)
    | (go_at_call 33; (with_reducible refine (same_sl (MS2.out _ (by assumption)) SS.out MM.out SM.out (by omega) (by omega) (EQ1.out _ SR.out SQ.out)).mono ?_); rintro e v2 ⟨rfl, E⟩; have T11 : Frm [] u2 v2 := frm_tr (by assumption) E)
    | (go_at_call 34; (with_reducible refine (set_any (n := m) (cap := cx) (l := x) (n' := 1) (cap' := 1) (l' := [((r1, r2) : Rg)]) (XRR.out _ (by assumption)) XM.out XNIL.out (ONE.out v2) rfl (by intro h; cases h) (by omega)).mono ?_); rintro e w12 hgot; obtain ⟨ab, mb, cb, sb, rfl, BM, BS, BR, BQ, hmb, E⟩ := hgot.n; have T12 : Frm [] u2 w12 := frm_tr (by assumption) E.out)
    | (go_at_call 33; (with_reducible refine (same_sl (LS2.out _ (by assumption)) BS.out LM.out BM.out (by omega) (by omega) (EQ2.out _ BR.out BQ.out)).mono ?_); rintro e v3 ⟨rfl, E⟩; have T13 : Frm [] u2 v3 := frm_tr (by assumption) E)))
  all_goals
    go_wp2
    go_ret
    exact trueOf (frm_tr F0.out (frm_tr F7.out T13))
end Go.Proofs.Ytolmpmihchjmlaa
