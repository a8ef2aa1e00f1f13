/- Both tables, the program's and the document's, through their calls. -/
import Derived.Test.YtahhkffghhgojaaDDdAwake
import Derived.Test.YtahhkffghhgojaaCB
import Derived.Test.YtahhkffghhgojaaDTbDone
import Derived.Test.YtahhkffghhgojaaDTbForget
import Derived.Test.YtahhkffghhgojaaDTbHas
namespace Go.Proofs.Ytahhkffghhgojaa
open Go.RowKit
set_option maxRecDepth 100000

/-- The program's table at g has the lines X, in some order, the document's at p has Z; their blocks, all from B on, are of T or lie from b0 on. -/
structure TwD (w : World) (B : Nat) (T : List Nat) (b0 g p : Nat) (X Z : List Ln) : Prop where
  okX : TbOk X
  okZ : TbOk Z
  low : B ≤ w.heap.size
  new : b0 ≤ w.heap.size
  row : ∃ (m : Option Nat) (Y : List Ln) (a : Option Addr) (cap : Nat), Dd w g m Y ∧ X.Perm Y ∧ Tb w B p (g :: m.toList) a cap Z ∧ ∀ x ∈ g :: m.toList ++ p :: blk a, B ≤ x ∧ (x ∈ T ∨ b0 ≤ x)
/-- What a call on them leaves. -/
def TwTo (w w' : World) (B : Nat) (T : List Nat) (b0 g p : Nat) (X Z : List Ln) : Prop := TwD w' B T b0 g p X Z ∧ ∃ S, Frm S w w' ∧ ∀ x ∈ S, B ≤ x ∧ (x ∈ T ∨ b0 ≤ x)
section
variable {w w' : World} {B b0 g p : Nat} {T : List Nat} {X Z : List Ln}
theorem TwTo.tw (h : TwTo w w' B T b0 g p X Z) : TwD w' B T b0 g p X Z := h.1
theorem TwTo.frm {W : World} (h : TwTo w w' B T b0 g p X Z) (hf : Frm T W w) (hb : W.heap.size ≤ b0) : Frm T W w' := by
  obtain ⟨_, S, h1, h2⟩ := h
  exact hf.trans h1 (fun x hx => hx) (fun x hx => (h2 x hx).2.imp id (fun h => Nat.le_trans hb h))
/-- Its blocks alone may be known. -/
theorem TwD.start (h : TwD w B T b0 g p X Z) : ∃ T', TwD w B T' w.heap.size g p X Z ∧ ∀ x ∈ T', B ≤ x ∧ x < w.heap.size := by
  obtain ⟨m, Y, a, cap, h1, h2, h3, h4⟩ := h.row
  refine ⟨g :: m.toList ++ p :: blk a, ⟨h.okX, h.okZ, h.low, Nat.le_refl _, m, Y, a, cap, h1, h2, h3, fun x hx => ⟨(h4 x hx).1, .inl hx⟩⟩, fun x hx => ⟨(h4 x hx).1, ?_⟩⟩
  have hg := h1.tab.lt
  have hp := h3.tab.lt
  have hm := h1.map.lt
  have ha := h3.row.blk_lt
  simp only [List.cons_append, List.mem_cons, List.mem_append] at hx
  rcases hx with rfl | hx | rfl | hx
  · exact hg
  · exact hm x (by cases m with | none => cases hx | some y => simp at hx; rw [hx])
  · exact hp
  · exact (ha x hx).2
theorem TwD.loose (h : TwD w B T b0 g p X Z) : TwD w B [] B g p X Z := by
  obtain ⟨m, Y, a, cap, h1, h2, h3, h4⟩ := h.row
  exact ⟨h.okX, h.okZ, h.low, h.low, m, Y, a, cap, h1, h2, h3, fun x hx => ⟨(h4 x hx).1, .inr (h4 x hx).1⟩⟩
/-- Other blocks turn. -/
theorem TwD.keep {S : List Nat} (h : TwD w B T b0 g p X Z) (hf : Frm S w w') (hS : ∀ x ∈ S, w.heap.size ≤ x ∨ x < B) : TwD w' B T b0 g p X Z := by
  obtain ⟨m, Y, a, cap, h1, h2, h3, h4⟩ := h.row
  have hg := h1.tab.lt
  have hm := h1.map.lt
  have ha := h3.row.blk_lt
  have hp := h3.tab.lt
  have hn : ∀ x, B ≤ x → x < w.heap.size → x ∉ S := fun x hx hx2 hm => by rcases hS x hm with h | h <;> omega
  have hB := fun x hx => (h4 x hx).1
  refine ⟨h.okX, h.okZ, Nat.le_trans h.low hf.size, Nat.le_trans h.new hf.size, m, Y, a, cap, h1.keep hf (hn g (hB g (by simp)) hg) (fun b hb => hn b (hB b (by subst hb; simp)) (hm b hb)), h2, ⟨hf.whole h3.tab (hn p (hB p (by simp)) hp), ⟨hf.own h3.row.own (fun q hq => hn q (hB q (by simp [ownBlk3.1 hq])) (ha q (ownBlk3.1 hq)).2), h3.row.fits, h3.row.away⟩, h3.hp, h3.out, h3.few⟩, h4⟩
/-- The same, behind new blocks; their own blocks are older than those. -/
theorem TwD.start2 (h : TwD w B T b0 g p X Z) (hf : Frm [] w w') : ∃ T', TwD w' B T' w'.heap.size g p X Z ∧ ∀ x ∈ T', B ≤ x ∧ x < w.heap.size := by
  obtain ⟨m, Y, a, cap, h1, h2, h3, h4⟩ := h.row
  have ha := h3.row.blk_lt
  have hm := h1.map.lt
  refine ⟨g :: m.toList ++ p :: blk a, ⟨h.okX, h.okZ, Nat.le_trans h.low hf.size, Nat.le_refl _, m, Y, a, cap, h1.keep hf (by simp) (by simp), h2, h3.keep hf (by simp) (by simp) (fun x hx => .inl hx), fun x hx => ⟨(h4 x hx).1, .inl hx⟩⟩, fun x hx => ⟨(h4 x hx).1, ?_⟩⟩
  simp only [List.cons_append, List.mem_cons, List.mem_append] at hx
  rcases hx with rfl | hx | rfl | hx
  · exact h1.tab.lt
  · exact hm x (by cases m with | none => cases hx | some y => simp at hx; rw [hx])
  · exact h3.tab.lt
  · exact (ha x hx).2
theorem TwD.keep0 (h : TwD w B T b0 g p X Z) (hf : Frm [] w w') : TwD w' B T b0 g p X Z := h.keep hf (by simp)
/-- A call on the program's table. -/
theorem TwD.prog {X' : List Ln} (h : TwD w B T b0 g p X Z) (ok : TbOk X') {Q : Ending → World → Prop} {f : Nat} {args : Array Value} {v : Value}
    (hc : ∀ m Y, Dd w g m Y → X.Perm Y → Calls Try.prog f args w fun e w' => e = .returned v ∧ ∃ Y', X'.Perm Y' ∧ DdTo w w' g m Y') (hQ : ∀ w', TwTo w w' B T b0 g p X' Z → Q (.returned v) w') : Calls Try.prog f args w Q := by
  obtain ⟨m, Y, a, cap, h1, h2, h3, h4⟩ := h.row
  refine (hc m Y h1 h2).mono fun e w' ⟨he, Y', hp, m', k1, k2, k3⟩ => ?_
  rw [he]
  have hgp : g ≠ p := fun e => h3.out (by simp [e])
  refine hQ w' ⟨⟨ok, h.okZ, Nat.le_trans h.low k2.size, Nat.le_trans h.new k2.size, m', Y', a, cap, k1, hp, ?_, fun x hx => ?_⟩, [g], k2, fun x hx => h4 x (by simp at hx; simp [hx])⟩
  · refine h3.keep k2 (by simp; exact fun e => hgp e.symm) (fun x hx => .inl (by simp at hx; simp [hx])) (fun x hx => ?_)
    rcases List.mem_cons.1 hx with rfl | hx
    · exact .inl (by simp)
    · cases m' with
      | none => cases hx
      | some y =>
        simp at hx; subst hx
        rcases k3 x rfl with h | h
        · exact .inl (by subst h; simp)
        · exact .inr h
  · simp only [List.cons_append, List.mem_cons, List.mem_append] at hx
    rcases hx with rfl | hx | rfl | hx
    · exact h4 x (by simp)
    · cases m' with
      | none => cases hx
      | some y =>
        simp at hx; subst hx
        rcases k3 x rfl with h5 | h5
        · exact h4 x (by subst h5; simp)
        · exact ⟨Nat.le_trans h.low h5, .inr (Nat.le_trans h.new h5)⟩
    · exact h4 x (by simp)
    · exact h4 x (by simp [hx])
/-- A call on the document's. -/
theorem TwD.docu {Z' : List Ln} (h : TwD w B T b0 g p X Z) (ok : TbOk Z') {Q : Ending → World → Prop} {f : Nat} {args : Array Value} {v : Value}
    (hc : ∀ F a cap, Tb w B p F a cap Z → (∀ x ∈ F, x < w.heap.size) → Calls Try.prog f args w fun e w' => e = .returned v ∧ TbTo w w' B p F a Z') (hQ : ∀ w', TwTo w w' B T b0 g p X Z' → Q (.returned v) w') : Calls Try.prog f args w Q := by
  obtain ⟨m, Y, a, cap, h1, h2, h3, h4⟩ := h.row
  have hF : ∀ x ∈ g :: m.toList, x < w.heap.size := fun x hx => by
    rcases List.mem_cons.1 hx with rfl | hx
    · exact h1.tab.lt
    · exact h1.map.lt x (by cases m with | none => cases hx | some y => simp at hx; rw [hx])
  refine (hc _ a cap h3 hF).mono fun e w' ⟨he, a', c', k1, k2, k3⟩ => ?_
  rw [he]
  have hno : ∀ x ∈ g :: m.toList, x ∉ p :: blk a := fun x hx hm => by
    rcases List.mem_cons.1 hm with rfl | hm
    · exact h3.out hx
    · exact h3.row.away x hm (List.mem_cons_of_mem _ hx)
  refine hQ w' ⟨⟨h.okX, ok, Nat.le_trans h.low k2.size, Nat.le_trans h.new k2.size, m, Y, a', c', h1.keep k2 (hno g (by simp)) (fun b hb => hno b (by subst hb; simp)), h2, k1, fun x hx => ?_⟩, p :: blk a, k2, fun x hx => h4 x (by
    rcases List.mem_cons.1 hx with rfl | hx
    · simp
    · simp [hx])⟩
  simp only [List.cons_append, List.mem_cons, List.mem_append] at hx
  rcases hx with rfl | hx | rfl | hx
  · exact h4 x (by simp)
  · exact h4 x (by simp [hx])
  · exact h4 x (by simp)
  · rcases k3 x hx with h5 | h5
    · exact h4 x (by simp [h5])
    · exact ⟨Nat.le_trans h.low h5, .inr (Nat.le_trans h.new h5)⟩
theorem tw_begP (h : TwD w B T b0 g p X Z) (s : ByteArray) (q : Nat) (hs : s.size ≤ 1000000) (hq : q < 18446744073709551616) :
    Calls Try.prog 9 #[.pointer (some ⟨g, 0, none⟩), .string s, .int .u64 (q : Nat)] w fun e w' => e = .returned (.int .i64 (begC X s q : Nat)) ∧ TwTo w w' B T b0 g p (begX X s q) Z :=
  h.prog (h.okX.beg s q hq) (v := .int .i64 (begC X s q : Nat)) (fun _ _ h1 h2 => (dbeg_any h1 (h.okX.perm h2) s q hs hq).mono fun _ _ ⟨he, ht⟩ => ⟨by rw [he, begC_perm h.okX.dist h2], _, begX_perm h.okX.dist h2 s q, ht⟩) (fun _ hw => ⟨rfl, hw⟩)
theorem tw_donP (h : TwD w B T b0 g p X Z) (s : ByteArray) (q pl pe : Nat) (hs : s.size ≤ 1000000) (hq : q < 18446744073709551616) (hpl : pl < 18446744073709551616) (hpe : pe < 18446744073709551616) :
    Calls Try.prog 11 #[.pointer (some ⟨g, 0, none⟩), .string s, .int .u64 (q : Nat), .agg #[.int .u64 (pl : Nat), .int .u64 (pe : Nat)]] w fun e w' => e = .returned (.int .i64 (donC X s q : Nat)) ∧ TwTo w w' B T b0 g p (donX X s q pl pe) Z :=
  h.prog (h.okX.don s q pl pe hq hpl hpe) (v := .int .i64 (donC X s q : Nat)) (fun _ _ h1 h2 => (ddon_any h1 (h.okX.perm h2) s q pl pe hs hq hpl hpe).mono fun _ _ ⟨he, ht⟩ => ⟨by rw [he, donC_perm h.okX.dist h2], _, donX_perm h.okX.dist h2 s q pl pe, ht⟩) (fun _ hw => ⟨rfl, hw⟩)
theorem tw_forP (h : TwD w B T b0 g p X Z) :
    Calls Try.prog 13 #[.pointer (some ⟨g, 0, none⟩)] w fun e w' => e = .returned (.tuple #[]) ∧ TwTo w w' B T b0 g p (forX X) Z :=
  h.prog h.okX.forg (v := .tuple #[]) (fun _ _ h1 h2 => (dfor_any h1 (by have := h2.length_eq; have := h.okX.few; omega)).mono fun _ _ ⟨he, ht⟩ => ⟨he, _, forX_perm h2, ht⟩) (fun _ hw => ⟨rfl, hw⟩)
theorem tw_begR (h : TwD w B T b0 g p X Z) (s : ByteArray) (q : Nat) (hs : s.size ≤ 1000000) (hq : q < 18446744073709551616) :
    Calls Try.prog 10 #[.pointer (some ⟨p, 0, none⟩), .string s, .int .u64 (q : Nat)] w fun e w' => e = .returned (.int .i64 (begC Z s q : Nat)) ∧ TwTo w w' B T b0 g p X (begX Z s q) :=
  h.docu (h.okZ.beg s q hq) (v := .int .i64 (begC Z s q : Nat)) (fun _ _ _ h3 hF => rbeg_any s q h3 hF (by omega) hq) (fun _ hw => ⟨rfl, hw⟩)
theorem tw_donR (h : TwD w B T b0 g p X Z) (s : ByteArray) (q pl pe : Nat) (hq : q < 18446744073709551616) (hpl : pl < 18446744073709551616) (hpe : pe < 18446744073709551616) :
    Calls Try.prog 12 #[.pointer (some ⟨p, 0, none⟩), .string s, .int .u64 (q : Nat), .agg #[.int .u64 (pl : Nat), .int .u64 (pe : Nat)]] w fun e w' => e = .returned (.int .i64 (donC Z s q : Nat)) ∧ TwTo w w' B T b0 g p X (donX Z s q pl pe) :=
  h.docu (h.okZ.don s q pl pe hq hpl hpe) (v := .int .i64 (donC Z s q : Nat)) (fun _ _ _ h3 _ => rdon_any s q pl pe h3 hq hpl hpe) (fun _ hw => ⟨rfl, hw⟩)
theorem tw_forR (h : TwD w B T b0 g p X Z) :
    Calls Try.prog 14 #[.pointer (some ⟨p, 0, none⟩)] w fun e w' => e = .returned (.tuple #[]) ∧ TwTo w w' B T b0 g p X (forX Z) :=
  h.docu h.okZ.forg (v := .tuple #[]) (fun _ _ _ h3 hF => rfor_any h3 hF) (fun _ hw => ⟨rfl, hw⟩)
theorem TwD.ddb (h : TwD w B T b0 g p X Z) : DdB B w g X := by
  obtain ⟨m, Y, a, cap, h1, h2, h3, h4⟩ := h.row
  exact ⟨h.okX, (h4 g (by simp)).1, m, Y, h1, h2, fun b hb => (h4 b (by subst hb; simp)).1⟩
theorem tw_allR (h : TwD w B T b0 g p X Z) : Calls Try.prog 18 #[.pointer (some ⟨p, 0, none⟩)] w (DallEnd w (allX Z)) := by
  obtain ⟨m, Y, a, cap, h1, h2, h3, h4⟩ := h.row
  have hF : ∀ x ∈ g :: m.toList, x < w.heap.size := fun x hx => by
    rcases List.mem_cons.1 hx with rfl | hx
    · exact h1.tab.lt
    · exact h1.map.lt x (by cases m with | none => cases hx | some y => simp at hx; rw [hx])
  refine (rall_any h3 hF).mono fun e w' ⟨a', c', he, ho, hf⟩ => ⟨a', c', he, ⟨ho.own, ho.fits, by simp⟩, hf⟩
theorem tw_bytesR (h : TwD w B T b0 g p X Z) : Calls Try.prog 20 #[.pointer (some ⟨p, 0, none⟩), .slice none 0 0] w (RcE w (encY (keepD (allX Z)))) := by
  obtain ⟨m, Y, a, cap, h1, h2, h3, h4⟩ := h.row
  have hF : ∀ x ∈ g :: m.toList, x < w.heap.size := fun x hx => by
    rcases List.mem_cons.1 hx with rfl | hx
    · exact h1.tab.lt
    · exact h1.map.lt x (by cases m with | none => cases hx | some y => simp at hx; rw [hx])
  exact rtbytes_any h3 hF (fun x hx => (h.okZ.size x hx).2)
theorem tw_has (h : TwD w B T b0 g p X Z) (s : ByteArray) : Calls Try.prog 21 #[.pointer (some ⟨p, 0, none⟩), .string s] w fun e w' => e = .returned (.bool (hasL Z s)) ∧ Frm [] w w' := by
  obtain ⟨m, Y, a, cap, h1, h2, h3, h4⟩ := h.row
  refine (has_any s h3).mono fun e w' ⟨b, he, hb, hf⟩ => ⟨?_, hf⟩
  rw [he]
  have : b = hasL Z s := Bool.eq_iff_iff.2 (hb.trans (hasL_at Z s).symm)
  rw [this]
theorem TwD.first (w : World) : TwD ((w.alloc (.cells #[.map none] 62)).alloc (.cells #[.slice none 0 0] 29)) w.heap.size [] w.heap.size w.heap.size (w.heap.size + 1) [] [] := by
  have h := Whole.made (w.alloc (.cells #[.map none] 62)) 29 #[.slice none 0 0]
  rw [World.size_alloc] at h
  refine ⟨TbOk.nil, TbOk.nil, by simp; omega, by simp; omega, none, [], none, 0, (Dd.new w).keep (S := []) ((Frm.refl _ _).alloc _) (by simp) (by simp), List.Perm.refl _, ⟨h, LnOwn.nil _ _ _ _, by omega, by simp, by simp⟩, fun x hx => ?_⟩
  simp at hx
  rcases hx with rfl | rfl
  · exact ⟨Nat.le_refl _, .inr (Nat.le_refl _)⟩
  · exact ⟨by omega, .inr (by omega)⟩
end
end Go.Proofs.Ytahhkffghhgojaa
