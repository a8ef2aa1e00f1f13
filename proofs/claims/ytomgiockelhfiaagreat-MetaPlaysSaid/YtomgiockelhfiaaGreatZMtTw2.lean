/- Both keepers: what they show, a crash, Open again; how they begin. -/
import Derived.Test.YtomgiockelhfiaaGreatZMtTw
import Derived.Test.YtomgiockelhfiaaGreatZMtShows
import Derived.Test.YtomgiockelhfiaaGreatZDsSays
namespace Go.Proofs.YtomgiockelhfiaaGreat
open Go.RowKit
set_option maxRecDepth 100000
section
variable {w0 w : World} {Z : List Nat} {k dp q m room : Nat} {S : MS} {l : List Nat}
theorem tm_shows (id : Nat) (h : Tm w0 w Z k dp q m room S l) (hM : MOk S) :
    Calls Tryz.prog 13 #[.pointer (some ⟨k, 0, none⟩), .pointer (some ⟨q, 0, none⟩), .int .u64 (id : Nat)] w fun e w' => e = .returned (.bool true) ∧ Frm [] w w' := by
  obtain ⟨jq, Fd, Gd, h1, h2, h3, h4⟩ := h
  refine shows8 id h1 (fun x hx => ?_) h2.ds (fun x hx => ?_) hM
  · simp only [List.mem_cons, List.mem_append] at hx
    rcases hx with h | h | h
    · exact (h2.lt x (by simp [h])).2
    · exact (h2.lt x (by simp [h])).2
    · exact h4 x h
  · simp only [List.mem_cons, List.mem_append] at hx
    rcases hx with h | h | h | h
    · exact (h2.lt x (by simp [h])).2
    · exact h1.klt x (by simp [h])
    · exact h1.klt x (by simp [h])
    · exact h4 x h
theorem tm_bytes (h : Tm w0 w Z k dp q m room S l) :
    Calls Tryz.prog 14 #[.pointer (some ⟨dp, 0, none⟩)] w fun e w' => ∃ ab cb, e = .returned (.slice ab l.length cb) ∧ Bytes w' ab l ∧ Frm [] w w' := by
  obtain ⟨jq, Fd, Gd, h1, h2, h3, h4⟩ := h
  refine (dbytes_any h1.dk).mono ?_
  rintro e w' ⟨ab, cb, he, ho, hf⟩
  exact ⟨ab, cb, he, (bytes_of_own ho h1.dk.1.1).2.1, hf⟩
theorem tm_doc (h : Tm w0 w Z k dp q m room S l) : ∃ da dc, ∀ z, Frm [] w z → z.cell? ⟨q, 4, none⟩ = some (.pointer (some ⟨m, 0, none⟩)) ∧ z.cell? ⟨m, 2, none⟩ = some (.slice da l.length dc) ∧ Bytes z da l := by
  obtain ⟨jq, Fd, Gd, h1, h2, h3, h4⟩ := h
  obtain ⟨hs, da, dc, hm, hh, hG⟩ := h2.rf
  exact ⟨da, dc, fun z hz => ⟨(hz.cell (p := ⟨q, 4, none⟩) h2.ds.plt (by simp)).trans h2.c4, (hz.whole hm (by simp)).cell 2, hz.bytes (hh.bytes hs.1) (by simp)⟩⟩
theorem tm_get (s : ByteArray) (h : Tm w0 w Z k dp q m room S l) (hM : MOk S) :
    Calls Tryz.prog 15 #[.pointer (some ⟨k, 0, none⟩), .string s] w (GetPEnd w (getN S.nodes s) (isN S.nodes s)) := by
  obtain ⟨jq, Fd, Gd, h1, h2, h3, h4⟩ := h
  exact kget_any s h1 hM.good
theorem tm_rget (s : ByteArray) (h : Tm w0 w Z k dp q m room S l) :
    Calls Tryz.prog 16 #[.pointer (some ⟨q, 1, none⟩), .string s] w fun e w' => ∃ a c, e = .returned (.tuple #[.agg #[.string (getN S.nodes s).k, .slice a (getN S.nodes s).v.length c, .int .u64 ((getN S.nodes s).ver : Nat), .int .u64 ((getN S.nodes s).own : Nat)], .bool (isN S.nodes s)]) ∧ Bytes w' a (getN S.nodes s).v ∧ ((getN S.nodes s).v ≠ [] → ∀ x, a = some x → x.block ∉ Z) ∧ Frm [] w w' := by
  obtain ⟨jq, Fd, Gd, h1, h2, h3, h4⟩ := h
  refine (ds_get s h2.ds).mono ?_
  rintro e w' ⟨⟨t, a, c⟩, ht, rfl, hok, hf⟩
  simp only at ht
  subst ht
  exact ⟨a, c, rfl, hok.bytes, fun hne x hx hm => hok.away hne x hx (by simp [hm]), hf⟩
/-- The program's disk, behind a crash, and the document's keeper. -/
def Td (w0 w : World) (Z : List Nat) (dp q m room : Nat) (S : MS) (l : List Nat) : Prop :=
  ∃ Fd Gd, Dk w w0.heap.size dp Fd l l.length room ∧ (∀ x ∈ Fd, x ∉ q :: (Gd ++ Z)) ∧ Rk w w0.heap.size q m (Fd ++ Z) Gd S l room ∧ Frm [] w0 w ∧ ∀ x ∈ Z, x < w.heap.size
theorem tm_crash (i j : Int) (h : Tm w0 w Z k dp q m room S l) :
    Calls Tryz.prog 18 #[.pointer (some ⟨dp, 0, none⟩), .int .i64 i, .int .i64 j] w fun e w' => e = .returned (.tuple #[]) ∧ Td w0 w' Z dp q m room S l ∧ ∃ T, Frm T w w' ∧ (∀ x ∈ T, w0.heap.size ≤ x) ∧ ∀ x ∈ Z, x ∉ T := by
  obtain ⟨jq, Fd, Gd, h1, h2, h3, h4⟩ := h
  have q1 := kp_pos h1
  have e0 : keptN l l.length i = 0 := by unfold keptN; simp
  have e : crashed l l.length i j = l := by rw [crashed_plain (by omega), e0]; simp
  refine (crash_any i j h1.dk).mono ?_
  rintro e' w' ⟨rfl, Fd', hd, hf, hx⟩
  rw [e] at hd
  have hB : ∀ x ∈ Fd, w0.heap.size ≤ x := fun x hx => (q1 x (by simp [hx])).2.1
  refine ⟨rfl, ⟨Fd', Gd, hd, fun x hm hz => ?_, h2.keep hf (fun x hx => .inl (by simp [hx])) (fun x hm => ?_), h3.trans hf (by simp) (fun x hx => .inr (hB x hx)), fun x hm => Nat.lt_of_lt_of_le (h4 x hm) hf.size⟩, Fd, hf, hB, fun x hz hm => (q1 x (by simp [hm])).1 (by simp [hz])⟩
  · rcases hx x hm with h | h
    · exact (q1 x (by simp [h])).1 hz
    · simp only [List.mem_cons, List.mem_append] at hz
      rcases hz with hz | hz | hz
      · have := (h2.lt x (by simp [hz])).2; omega
      · have := (h2.lt x (by simp [hz])).2; omega
      · have := h4 x hz; omega
  · rcases List.mem_append.1 hm with h | h
    · rcases hx x h with h | h
      · exact .inl (by simp [h])
      · exact .inr h
    · exact .inl (by simp [h])
theorem td_open (h : Td w0 w Z dp q m room S l) (hr : Rc S l) :
    Calls Tryz.prog 9 #[.pointer (some ⟨dp, 0, none⟩)] w fun e w' => ∃ k, e = .returned (.tuple #[.pointer (some ⟨k, 0, none⟩), .int .i64 0]) ∧ Tm w0 w' Z k dp q m room S l ∧ ∃ T, Frm T w w' ∧ (∀ x ∈ T, w0.heap.size ≤ x) ∧ ∀ x ∈ Z, x ∉ T := by
  obtain ⟨Fd, Gd, hd, hZ, h2, h3, h4⟩ := h
  refine (kopen_any (q :: (Gd ++ Z)) hd (fun x hx => ?_) hZ (.inr rep_ok)).mono ?_
  · simp only [List.mem_cons, List.mem_append] at hx
    rcases hx with h | h | h
    · exact (h2.lt x (by simp [h])).2
    · exact (h2.lt x (by simp [h])).2
    · exact h4 x h
  rintro e w' (⟨S', k, jq, Fd', hrp, rfl, hk, _, hf, hx, _⟩ | ⟨hno, _⟩)
  · rw [hr.recs.1] at hrp
    cases hrp
    rw [hr.recs.2] at hk
    have hB : ∀ x ∈ Fd, w0.heap.size ≤ x := fun x hx => (hd.lt x hx).1
    refine ⟨k, rfl, ⟨jq, Fd', Gd, hk, h2.keep hf (fun x hx => .inl (by simp [hx])) (fun x hm => ?_), h3.trans hf (by simp) (fun x hx => .inr (hB x hx)), fun x hm => Nat.lt_of_lt_of_le (h4 x hm) hf.size⟩, Fd, hf, hB, fun x hz hm => hZ x hm (by simp [hz])⟩
    simp only [List.mem_cons, List.mem_append] at hm
    rcases hm with h | h | h
    · exact (hx x (by simp [h])).imp (fun h => by simp [h]) id
    · exact (hx x (by simp [h])).imp (fun h => by simp [h]) id
    · exact .inl (by simp [h])
  · rw [hr.recs.1] at hno; cases hno
end
/-- The document's keeper as it is made. -/
theorem rk_new (w : World) (B room : Nat) (G : List Nat) (hr : room ≤ 16777216) (hB : B ≤ w.heap.size) (hG : ∀ x ∈ G, x < w.heap.size) :
    Rk ((w.alloc (.cells #[.int .i64 (room : Nat), .int .i64 0, .slice none 0 0] 37)).alloc (.cells #[.int .u64 0, .slice none 0 0, .int .u64 0, .slice none 0 0, .pointer (some ⟨w.heap.size, 0, none⟩)] 48)) B (w.heap.size + 1) w.heap.size G [w.heap.size] {} [] room := by
  obtain ⟨w1, hw1⟩ : ∃ w1, w1 = w.alloc (.cells #[.int .i64 (room : Nat), .int .i64 0, .slice none 0 0] 37) := ⟨_, rfl⟩
  have hs : w1.heap.size = w.heap.size + 1 := by rw [hw1]; simp
  have hR := Rf.zero w room hr B hB
  rw [← hw1] at hR ⊢
  have hW := Whole.made w1 48 #[.int .u64 0, .slice none 0 0, .int .u64 0, .slice none 0 0, .pointer (some ⟨w.heap.size, 0, none⟩)]
  rw [hs] at hW
  have hf : Frm [] w1 (w1.alloc (.cells #[.int .u64 0, .slice none 0 0, .int .u64 0, .slice none 0 0, .pointer (some ⟨w.heap.size, 0, none⟩)] 48)) := (Frm.refl _ _).alloc _
  have ho : w.heap.size + 1 ∉ [w.heap.size] ++ G := fun hm => by
    rcases List.mem_append.1 hm with h | h
    · simp at h
    · have := hG _ h; omega
  refine ⟨⟨hW.cell 0, ⟨none, 0, [], ⟨hW.cell 1, fun j => hW.free j, NOwn.nil _ _ _ _, by omega, ho, by simp⟩, ⟨List.Pairwise.nil, List.Perm.refl _⟩⟩, none, 0, ⟨hW.cell 2, hW.cell 3, fun j => hW.free j, SOwn.nil _ _ _ _, by omega, ho, by simp, by show (0 : Nat) < 18446744073709551616; omega⟩⟩, hW.cell 4, hR.keep hf (by simp), fun x hx hm => ?_⟩
  simp only [List.mem_cons, List.not_mem_nil, or_false] at hx
  have := hG x hm
  omega
/-- Both as they begin. -/
theorem tm_new {w0 w : World} {k jq dp room : Nat} {Fd : List Nat} (hk : Kp w w0.heap.size [] k jq dp Fd {} [] room) (hf : Frm [] w0 w) (hr : room ≤ 16777216) :
    Tm w0 ((w.alloc (.cells #[.int .i64 (room : Nat), .int .i64 0, .slice none 0 0] 37)).alloc (.cells #[.int .u64 0, .slice none 0 0, .int .u64 0, .slice none 0 0, .pointer (some ⟨w.heap.size, 0, none⟩)] 48)) [] k dp (w.heap.size + 1) w.heap.size room {} [] := by
  have hf2 : Frm [] w ((w.alloc (.cells #[.int .i64 (room : Nat), .int .i64 0, .slice none 0 0] 37)).alloc (.cells #[.int .u64 0, .slice none 0 0, .int .u64 0, .slice none 0 0, .pointer (some ⟨w.heap.size, 0, none⟩)] 48)) := ((Frm.refl _ _).alloc _).alloc _
  refine ⟨jq, Fd, [w.heap.size], hk.keep hf2 (by simp) (fun x hx => .inr ?_), rk_new w _ room _ hr hf.size (fun x hx => hk.klt x ?_), hf.trans hf2 (by simp) (by simp), by simp⟩
  · simp only [List.mem_cons, List.append_nil, List.not_mem_nil, or_false] at hx
    omega
  · simp only [List.mem_cons, List.append_nil] at hx ⊢
    exact hx.imp id .inr
end Go.Proofs.YtomgiockelhfiaaGreat
