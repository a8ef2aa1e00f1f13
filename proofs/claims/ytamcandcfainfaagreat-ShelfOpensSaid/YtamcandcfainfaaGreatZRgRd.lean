/- Contracts of the reference's Reader: Number, Bytes, End; its bytes in blocks of any kind Pb. Written by wip/mk-rgrd.py out of XReRd. -/
import Derived.Test.YtamcandcfainfaaGreatMX
import Derived.Test.YtamcandcfainfaaGreatZReRd
namespace Go.Proofs.YtamcandcfainfaaGreat
open Go.RowKit
set_option maxRecDepth 100000
/-- The reader at rb has the bytes of o left (none: there was a fault); they lie in blocks below Pb. -/
def RG (w : World) (Pb : Nat → Prop) (rb : Nat) (o : Option (List Nat)) : Prop :=
  ∃ (a : Option Addr) (l : List Nat) (cap code : Nat), Whole w rb 120 #[.slice a l.length cap, .int .i64 (code : Nat)] ∧ Bytes w a l ∧ l.length ≤ cap ∧ (a = none → cap = 0) ∧ (l ≠ [] → ∀ x, a = some x → Pb x.block) ∧ ¬ Pb rb ∧ ((o = some l ∧ code = 0) ∨ (o = none ∧ code ≠ 0 ∧ code < 100))
theorem RG.keep {w w' : World} {Pb : Nat → Prop} {T : List Nat} {rb : Nat} {o : Option (List Nat)} (h : RG w Pb rb o) (hf : Frm T w w') (hT : ∀ x ∈ T, ¬ Pb x) (hr : rb ∉ T) : RG w' Pb rb o := by
  obtain ⟨a, l, cap, code, h1, h2, h3, h4, h5, hb, h6⟩ := h
  exact ⟨a, l, cap, code, hf.whole h1 hr, hf.bytes' h2 (fun hne x hx hm => hT _ hm (h5 hne x hx)), h3, h4, h5, hb, h6⟩
theorem RG.lt {w : World} {Pb : Nat → Prop} {rb : Nat} {o : Option (List Nat)} (h : RG w Pb rb o) : ¬ Pb rb ∧ rb < w.heap.size := by
  obtain ⟨a, l, cap, code, h1, _, _, _, _, hb, _⟩ := h; exact ⟨hb, h1.lt⟩
theorem RG.code {w : World} {Pb : Nat → Prop} {rb : Nat} {o : Option (List Nat)} (h : RG w Pb rb o) : ∃ code : Nat, w.cell? ⟨rb, 1, none⟩ = some (.int .i64 (code : Nat)) ∧ (code = 0 ↔ o ≠ none) := by
  obtain ⟨a, l, cap, code, h1, _, _, _, _, _, h6⟩ := h
  refine ⟨code, h1.cell 1, ?_⟩
  rcases h6 with ⟨rfl, rfl⟩ | ⟨rfl, hc, _⟩
  · simp
  · simp [hc]
/-- Number: what was left is the number and what is left now; else there is a fault. -/
def NumG (w : World) (Pb : Nat → Prop) (rb k : Nat) (o : Option (List Nat)) (e : Ending) (w' : World) : Prop :=
  ∃ (n : Nat) (o' : Option (List Nat)), e = .returned (.int .u64 (n : Nat)) ∧ o.bind (pU k) = o'.map (Prod.mk n) ∧ n < 256 ^ k ∧ RG w' Pb rb o' ∧ Frm [rb] w w'
set_option maxHeartbeats 1000000 in
theorem rg_num {w : World} {Pb : Nat → Prop} {rb : Nat} {o : Option (List Nat)} (k : Nat) (i : Int) (hi : i = (k : Nat)) (h : RG w Pb rb o) (hk : k ≤ 8) :
    Calls Tryz.prog 55 #[.pointer (some ⟨rb, 0, none⟩), .int .i64 i] w (NumG w Pb rb k o) := by
  subst hi
  obtain ⟨a, l, cap, code, h1, h2, h3, h4, h5, hB, h6⟩ := h
  rcases h6 with ⟨rfl, rfl⟩ | ⟨rfl, hc, hc2⟩
  · by_cases hl : k ≤ l.length
    · have hR : RR w rb l a cap := ⟨h1, h2, h3, h4, fun hne x hx e => hB (e ▸ h5 hne x hx)⟩
      refine (ref_number_ok k hR hl hk).mono ?_
      rintro e w' ⟨rfl, rfl⟩
      have hn := hR.next k
      refine ⟨_, some (l.drop k), rfl, ?_, val_ltk h2.1 k, ⟨_, l.drop k, _, 0, hn.whole, hn.bytes, hn.le, hn.nil, fun hne x hx => ?_, hB, .inl ⟨rfl, rfl⟩⟩, (Frm.refl _ _).setCell (.inl (by simp)) _⟩
      · show pU k l = _
        unfold pU; rw [if_neg (by omega)]; rfl
      · obtain ⟨y, hy, hb⟩ := cut_block hx
        rw [hb]
        exact h5 (fun h0 => hne (by rw [h0]; simp)) y hy
    · have hsh : pU k l = none := by unfold pU; rw [if_pos (by omega)]
      have c0 := h1.cell 0
      have c1 := h1.cell 1
      have f1 := h1.free 1
      simp at c0 c1
      have hW := (h1.put 1 (.int .i64 4))
      have hf : Frm [rb] w (w.setCell ⟨rb, 1, none⟩ (.int .i64 4)) := (Frm.refl _ _).setCell (.inl (by simp)) _
      have HE : Hid (NumG w Pb rb k (some l) (.returned (.int .u64 0)) (w.setCell ⟨rb, 1, none⟩ (.int .i64 4))) := Lib.hid ⟨0, none, rfl, hsh, pow_pos8 _, ⟨a, l, cap, 4, by simpa using hW, hf.bytes' h2 (fun hne x hx hm => by have h9 := h5 hne x hx; simp at hm; exact hB (hm ▸ h9)), h3, h4, h5, hB, .inr ⟨rfl, by omega, by omega⟩⟩, hf⟩
      obtain ⟨n, hn⟩ : ∃ n, n = l.length := ⟨_, rfl⟩
      rw [← hn] at c0 hl
      have hd : decide ((n : Int) < (k : Int)) = true := decide_eq_true (by omega)
      have hd2 : decide (n < k) = true := decide_eq_true (by omega)
      clear h1 h2 h3 h4 h5 hsh hW hf hn hl
      go_enter Tryz.func55, Tryz.ntmps55
      go_wp2
      go_ret
      exact HE.out
  · have c0 := h1.cell 0
    have c1 := h1.cell 1
    simp at c0 c1
    have b1 : ((code : Int) == 0) = false := by rw [beq_eq_false_iff_ne]; omega
    have b2 : ((code : Int) != 0) = true := by rw [bne_iff_ne]; omega
    have HE : Hid (NumG w Pb rb k none (.returned (.int .u64 0)) w) := Lib.hid ⟨0, none, rfl, rfl, pow_pos8 _, ⟨a, l, cap, code, h1, h2, h3, h4, h5, hB, .inr ⟨rfl, hc, hc2⟩⟩, Frm.refl _ _⟩
    clear h1 h2 h3 h4 h5 hc hc2
    go_enter Tryz.func55, Tryz.ntmps55
    go_wp2
    go_ret
    exact HE.out
/-- Counted bytes. -/
def BytG (w : World) (Pb : Nat → Prop) (rb : Nat) (o : Option (List Nat)) (e : Ending) (w' : World) : Prop :=
  ∃ (v : List Nat) (va : Option Addr) (vn vc : Nat) (o' : Option (List Nat)), e = .returned (.slice va vn vc) ∧ Hid (vn = v.length) ∧ o.bind pB = o'.map (Prod.mk v) ∧ Bytes w' va v ∧ (v ≠ [] → ∀ x, va = some x → Pb x.block) ∧ (va = none → vc = 0) ∧ RG w' Pb rb o' ∧ Frm [rb] w w'
set_option maxHeartbeats 1000000 in
theorem rg_bytes {w : World} {Pb : Nat → Prop} {rb : Nat} {o : Option (List Nat)} (h : RG w Pb rb o) :
    Calls Tryz.prog 57 #[.pointer (some ⟨rb, 0, none⟩)] w (BytG w Pb rb o) := by
  have HN := Lib.hid (rg_num 4 4 rfl h (by omega))
  clear h
  go_enter Tryz.func57, Tryz.ntmps57
  go_wp2_with fail
  (with_reducible refine HN.out.mono ?_)
  rintro e w1 ⟨n, o1, rfl, hb, hn, hr, hf⟩
  obtain ⟨a, l, cap, code, h1, h2, h3, h4, h5, hB, h6⟩ := hr
  have hpb : o.bind pB = o1.bind fun l => if l.length < n then none else some (l.take n, l.drop n) := by
    have e : pB = fun l => (pU 4 l).bind fun a => if a.2.length < a.1 then none else some (a.2.take a.1, a.2.drop a.1) := funext pB_pU
    rw [e, ← Option.bind_assoc, hb]
    cases o1 <;> rfl
  have c0 := h1.cell 0
  have c1 := h1.cell 1
  have f0 := h1.free 0
  have f1 := h1.free 1
  simp at c0 c1
  have HPB := Lib.hid hpb
  have HF := Lib.hid hf
  clear hpb hf hb HN
  rcases h6 with ⟨rfl, rfl⟩ | ⟨rfl, hc, hc2⟩
  · obtain ⟨m, hm⟩ : ∃ m, m = l.length := ⟨_, rfl⟩
    have hll := h2.2.1
    have ew : IntKind.u64.wrap (m : Int) = (m : Int) := by rw [hm]; simp [IntKind.wrap, IntKind.bits, IntKind.signed]; omega
    by_cases hl : m < n
    · have hW := h1.put 1 (.int .i64 4)
      have hf : Frm [rb] w1 (w1.setCell ⟨rb, 1, none⟩ (.int .i64 4)) := (Frm.refl _ _).setCell (.inl (by simp)) _
      have HE : Hid (BytG w Pb rb o (.returned (.slice none 0 0)) (w1.setCell ⟨rb, 1, none⟩ (.int .i64 4))) := Lib.hid ⟨[], none, 0, 0, none, rfl, Lib.hid rfl, by rw [HPB.out]; show (if l.length < n then none else some (l.take n, l.drop n)) = none; rw [if_pos (by omega)], Bytes.nil _, fun hne => absurd rfl hne, fun _ => rfl, ⟨a, l, cap, 4, by simpa using hW, hf.bytes' h2 (fun hne x hx hm => by have h9 := h5 hne x hx; simp at hm; exact hB (hm ▸ h9)), h3, h4, h5, hB, .inr ⟨rfl, by omega, by omega⟩⟩, HF.out.trans hf (fun _ h => h) (fun x hx => .inl hx)⟩
      rw [← hm] at c0
      have hd : decide ((m : Int) < (n : Int)) = true := decide_eq_true (by omega)
      have hd2 : decide (m < n) = true := decide_eq_true hl
      clear h1 h2 h3 h4 h5 hW hf hm hl HPB HF
      go_wp2
      go_ret
      exact HE.out
    · have hR : RR w1 rb l a cap := ⟨h1, h2, h3, h4, fun hne x hx e => hB (e ▸ h5 hne x hx)⟩
      have hnx := hR.next n
      have HE : Hid (BytG w Pb rb o (.returned (.slice a n cap)) (w1.setCell ⟨rb, 0, none⟩ (.slice (cutAt a cap n) (l.length - n) (cap - n)))) := Lib.hid (by
        have hf : Frm [rb] w1 (w1.setCell ⟨rb, 0, none⟩ (.slice (cutAt a cap n) (l.length - n) (cap - n))) := (Frm.refl _ _).setCell (.inl (by simp)) _
        refine ⟨l.take n, a, n, cap, some (l.drop n), rfl, Lib.hid (by rw [List.length_take]; omega), by rw [HPB.out]; show (if l.length < n then none else some (l.take n, l.drop n)) = _; rw [if_neg (by omega)]; rfl, hf.bytes' (h2.take n) (fun hne x hx hm => by have h9 := h5 (fun h0 => hne (by rw [h0]; simp)) x hx; simp at hm; exact hB (hm ▸ h9)), fun hne x hx => h5 (fun h0 => hne (by rw [h0]; simp)) x hx, h4, ⟨_, l.drop n, _, 0, hnx.whole, hnx.bytes, hnx.le, hnx.nil, fun hne x hx => ?_, hB, .inl ⟨rfl, rfl⟩⟩, HF.out.trans hf (fun _ h => h) (fun x hx => .inl hx)⟩
        obtain ⟨y, hy, hb⟩ := cut_block hx
        rw [hb]
        exact h5 (fun h0 => hne (by rw [h0]; simp)) y hy)
      have hhd := fun (w : World) => run_head_hu (P := Tryz.prog) Tryz.underlying35 size_byte w a m cap n (by omega)
      have hcut := fun (w : World) => run_cut_l (P := Tryz.prog) Tryz.underlying35 size_byte w a m cap n (n : Int) rfl (by omega) .u64
      rw [← hm] at c0 HE
      obtain ⟨a2, ha2⟩ : ∃ a2, a2 = cutAt a cap n := ⟨_, rfl⟩
      obtain ⟨n2, hn2⟩ : ∃ n2, n2 = m - n := ⟨_, rfl⟩
      obtain ⟨c2, hc2⟩ : ∃ c2, c2 = cap - n := ⟨_, rfl⟩
      rw [← ha2, ← hn2, ← hc2] at hcut HE
      have hd : decide ((m : Int) < (n : Int)) = false := decide_eq_false (by omega)
      have hd2 : decide (m < n) = false := decide_eq_false hl
      clear h1 h2 h3 h4 h5 hR hnx hm hl HPB HF ha2 hn2 hc2
      go_wp2
      go_ret
      exact HE.out
  · have b1 : ((code : Int) == 0) = false := by rw [beq_eq_false_iff_ne]; omega
    have b2 : ((code : Int) != 0) = true := by rw [bne_iff_ne]; omega
    have HE : Hid (BytG w Pb rb o (.returned (.slice none 0 0)) w1) := Lib.hid ⟨[], none, 0, 0, none, rfl, Lib.hid rfl, by rw [HPB.out]; rfl, Bytes.nil _, fun hne => absurd rfl hne, fun _ => rfl, ⟨a, l, cap, code, h1, h2, h3, h4, h5, hB, .inr ⟨rfl, hc, hc2⟩⟩, HF.out⟩
    clear h1 h2 h3 h4 h5 hc hc2 HPB HF
    go_wp2
    go_ret
    exact HE.out
set_option maxHeartbeats 1000000 in
/-- End: is all taken, without a fault? -/
theorem rg_end {w : World} {Pb : Nat → Prop} {rb : Nat} {o : Option (List Nat)} (h : RG w Pb rb o) :
    Calls Tryz.prog 58 #[.pointer (some ⟨rb, 0, none⟩)] w fun e w' => ∃ c : Nat, e = .returned (.int .i64 (c : Nat)) ∧ (c = 0 ↔ o = some []) ∧ Frm [rb] w w' := by
  obtain ⟨a, l, cap, code, h1, h2, h3, h4, h5, hB, h6⟩ := h
  have c0 := h1.cell 0
  have c1 := h1.cell 1
  have f1 := h1.free 1
  simp at c0 c1
  rcases h6 with ⟨rfl, rfl⟩ | ⟨rfl, hc, hc2⟩
  · cases l with
    | nil =>
      simp at c0
      clear h1 h2 h3 h4 h5
      go_enter Tryz.func58, Tryz.ntmps58
      go_wp2
      go_ret
      exact ⟨0, rfl, by simp, Frm.refl _ _⟩
    | cons y l =>
      obtain ⟨m, hm⟩ : ∃ m, m = (y :: l).length := ⟨_, rfl⟩
      rw [← hm] at c0
      have hm0 : 0 < m := by rw [hm]; simp
      have hd : decide ((0 : Int) < (m : Int)) = true := decide_eq_true (by omega)
      have hd2 : decide (0 < m) = true := decide_eq_true hm0
      clear h1 h2 h3 h4 h5 hm
      go_enter Tryz.func58, Tryz.ntmps58
      go_wp2
      go_ret
      exact ⟨5, rfl, by simp, (Frm.refl _ _).setCell (.inl (by simp)) _⟩
  · have b1 : ((code : Int) == 0) = false := by rw [beq_eq_false_iff_ne]; omega
    clear h1 h2 h3 h4 h5
    go_enter Tryz.func58, Tryz.ntmps58
    go_wp2
    go_ret
    exact ⟨code, rfl, by simp [hc], Frm.refl _ _⟩
end Go.Proofs.YtamcandcfainfaaGreat
