/- What is under way to places: a row of threes (place, entry, its bytes), with spare room or full; one more, one less. -/
import Derived.Test.YtecfoomjpjcldaaElems
import Derived.Test.YtecfoomjpjcldaaOwnVals
import Derived.Test.YtecfoomjpjcldaaNd
import Derived.Laws.Slices
namespace Go.Proofs.Ytecfoomjpjcldaa
open Go.RowKit
set_option maxRecDepth 100000
theorem infoSn3 : (Try.prog.info? 85).map (fun i => (i.zero, i.size, i.bytes)) = some (some (.agg #[.int .i64 0, .int .u64 0, .slice none 0 0]), 3, 40) := by kernel_rfl
theorem sizeSn3 (w : World) : (Go.sizeOf 85).run Try.prog w = .ok 3 w := by kernel_rfl
/-- An entry's bytes, as a slice. -/
def dvV (g : Nat) : Value := .slice (some ⟨g, 0, none⟩) 2 2
def sc (db : Nat → Nat) (Y : List (Nat × Nat)) : List Value := Y.flatMap fun x => [.int .i64 (x.1 : Nat), .int .u64 (x.2 : Nat), dvV (db x.2)]
theorem sc_append (db : Nat → Nat) (Y Z : List (Nat × Nat)) : sc db (Y ++ Z) = sc db Y ++ sc db Z := by simp [sc]
theorem sc_cons (db : Nat → Nat) (x : Nat × Nat) (Z : List (Nat × Nat)) : sc db (x :: Z) = [.int .i64 (x.1 : Nat), .int .u64 (x.2 : Nat), dvV (db x.2)] ++ sc db Z := by simp [sc]
theorem sc_len (db : Nat → Nat) (Y : List (Nat × Nat)) : (sc db Y).length = Y.length * 3 := by
  induction Y with
  | nil => rfl
  | cons x Y ih => rw [sc_cons, List.length_append, ih]; simp; omega
theorem sc_one (db : Nat → Nat) (Y : List (Nat × Nat)) : ∀ u ∈ sc db Y, u.oneCell' = true := by
  intro u hu
  simp only [sc, List.mem_flatMap] at hu
  obtain ⟨x, _, h⟩ := hu
  simp only [List.mem_cons, List.not_mem_nil, or_false] at h
  rcases h with rfl | rfl | rfl <;> rfl
theorem sc_take (db : Nat → Nat) (Y : List (Nat × Nat)) : ∀ k, sc db (Y.take k) = (sc db Y).take (k * 3) := by
  induction Y with
  | nil => intro k; simp [sc]
  | cons x Y ih =>
    intro k
    cases k with
    | zero => simp [sc]
    | succ k =>
      rw [List.take_succ_cons, sc_cons, sc_cons, ih, show (k + 1) * 3 = k * 3 + 3 by omega]
      rfl
theorem sc_drop (db : Nat → Nat) (Y : List (Nat × Nat)) : ∀ k, sc db (Y.drop k) = (sc db Y).drop (k * 3) := by
  induction Y with
  | nil => intro k; simp [sc]
  | cons x Y ih =>
    intro k
    cases k with
    | zero => simp
    | succ k =>
      rw [List.drop_succ_cons, sc_cons, ih, show (k + 1) * 3 = k * 3 + 3 by omega]
      rfl
theorem sc_at (db : Nat → Nat) (Y : List (Nat × Nat)) (i : Nat) (h : i < Y.length) :
    (sc db Y)[i * 3]? = some (.int .i64 ((Y.getD i (0, 0)).1 : Nat)) ∧ (sc db Y)[i * 3 + 1]? = some (.int .u64 ((Y.getD i (0, 0)).2 : Nat)) ∧ (sc db Y)[i * 3 + 2]? = some (dvV (db (Y.getD i (0, 0)).2)) := by
  have e : Y.drop i = Y.getD i (0, 0) :: Y.drop (i + 1) := by
    rw [List.drop_eq_getElem_cons h]
    simp [List.getD, h]
  have hd := sc_drop db Y i
  rw [e, sc_cons] at hd
  refine ⟨?_, ?_, ?_⟩
  · have := congrArg (fun l => l[0]?) hd
    simpa using this.symm
  · have := congrArg (fun l => l[1]?) hd
    simpa [List.getElem?_drop] using this.symm
  · have := congrArg (fun l => l[2]?) hd
    simpa [List.getElem?_drop] using this.symm
theorem sc_congr {db db' : Nat → Nat} {Y : List (Nat × Nat)} (h : ∀ x ∈ Y, db' x.2 = db x.2) : sc db' Y = sc db Y := by
  induction Y with
  | nil => rfl
  | cons x Y ih => rw [sc_cons, sc_cons, h x (by simp), ih (fun y hy => h y (List.mem_cons_of_mem _ hy))]
/-- The row at a: with spare room of its own, or full. -/
structure WayAt (w : World) (base : Nat) (a : Option Addr) (n c : Nat) (db : Nat → Nat) (Y : List (Nat × Nat)) : Prop where
  own : w.ownsRow base 85 3 (.slice a n c) n (sc db Y) ∨ (c = n ∧ ValsAt w a (sc db Y) ∧ (a = none → n = 0))
  len : n = Y.length
  lt : ∀ g ∈ blk a, base ≤ g ∧ g < w.heap.size
section
variable {w w' : World} {base : Nat} {a : Option Addr} {n c : Nat} {db : Nat → Nat} {Y : List (Nat × Nat)} {S : List Nat}
theorem WayAt.nil (w : World) (base : Nat) (db : Nat → Nat) : WayAt w base none 0 0 db [] := ⟨.inl (World.ownsRow_nil _ _ _ _), rfl, by simp⟩
theorem WayAt.vals (h : WayAt w base a n c db Y) : ValsAt w a (sc db Y) := by
  rcases h.own with h | h
  · exact own_vals h
  · exact h.2.1
theorem WayAt.le (h : WayAt w base a n c db Y) : n ≤ c ∧ (a = none → c = 0) := by
  rcases h.own with h | h
  · rcases h.2 with ⟨hv, h0⟩ | ⟨g, c', cur, hv, _, _, h1, _⟩
    · simp only [Value.slice.injEq] at hv; omega
    · simp only [Value.slice.injEq] at hv
      obtain ⟨rfl, _, rfl⟩ := hv
      exact ⟨h1, fun h => by cases h⟩
  · exact ⟨by omega, fun hn => by rw [h.1]; exact h.2.2 hn⟩
theorem WayAt.keep (h : WayAt w base a n c db Y) (hf : Frm S w w') (hS : ∀ g ∈ blk a, g ∉ S) : WayAt w' base a n c db Y := by
  refine ⟨?_, h.len, fun g hg => ⟨(h.lt g hg).1, Nat.lt_of_lt_of_le (h.lt g hg).2 hf.size⟩⟩
  rcases h.own with h1 | h1
  · exact .inl (hf.own h1 (fun g hg => hS g (ownBlk.1 hg)))
  · exact .inr ⟨h1.1, h1.2.1.keep hf (fun _ x hx => hS x.block (by rw [hx]; simp)), h1.2.2⟩
theorem WayAt.here (h : WayAt w base a n c db Y) (hf : Frm [] w w') : WayAt w' base a n c db Y := h.keep hf (by simp)
/-- One of them. -/
theorem WayAt.at (h : WayAt w base a n c db Y) {i : Nat} (hi : i < Y.length) : ∃ b off, a = some ⟨b, off, none⟩ ∧ w.cell? ⟨b, off + i * 3, none⟩ = some (.int .i64 ((Y.getD i (0, 0)).1 : Nat)) ∧ w.cell? ⟨b, off + i * 3 + 1, none⟩ = some (.int .u64 ((Y.getD i (0, 0)).2 : Nat)) ∧ w.cell? ⟨b, off + i * 3 + 2, none⟩ = some (dvV (db (Y.getD i (0, 0)).2)) := by
  obtain ⟨h0, h1, h2⟩ := sc_at db Y i hi
  rcases h.vals with h' | ⟨b, off, rfl, hc⟩
  · rw [h'] at h0; simp at h0
  · exact ⟨b, off, rfl, hc _ _ h0, by rw [Nat.add_assoc]; exact hc _ _ h1, by rw [Nat.add_assoc]; exact hc _ _ h2⟩
/-- One more. -/
theorem way_more {ty : TypeId} {ad : Option Addr} {cc : Nat} {x : Nat × Nat} (h : WayAt w base a n c db Y) (hB : ValsAt w ad (sc db [x])) (hnil : ad = none → cc = 0) (hfit : n ≤ 100000000) (hb : base ≤ w.heap.size) :
    ∃ a' c' w', (Builtin.append_ #[81, 81] ty #[.slice a n c, .slice ad 1 cc]).run Try.prog w = .ok (.slice a' (n + 1) c') w' ∧ WayAt w' base a' (n + 1) c' db (Y ++ [x]) ∧ Frm (blk a) w w' ∧ (∀ g ∈ blk a', g ∈ blk a ∨ w.heap.size ≤ g) := by
  obtain ⟨i0, hinf, hz0, hz1, hz2⟩ := info_parts infoSn3
  rcases h.own with h1 | ⟨rfl, h1, h2⟩
  · obtain ⟨a', c', w', hr, hp⟩ := run_appS (P := Try.prog) base 81 ty 85 i0 (.agg #[.int .i64 0, .int .u64 0, .slice none 0 0]) 3 40 Try.underlying81 hinf hz0 rfl (by omega) hz1 hz2 (by omega) (.slice a n c) n (sc db Y) h1 ad 1 cc (sc db [x]) hB (by rw [sc_len]; rfl) (sc_one _ _) hnil (by omega) hb
    have hpl : ∀ g ∈ blk a', g ∈ blk a ∨ w.heap.size ≤ g := fun g hg => by
      have hg' : (Value.slice a' (n + 1) c').ownBlock = some g := ownBlk.2 hg
      rcases hp.place with h3 | h3
      · exact .inl (ownBlk.1 (h3 ▸ hg'))
      · rw [hg'] at h3; cases h3; exact .inr (Nat.le_refl _)
    exact ⟨a', c', w', hr, ⟨.inl (by rw [sc_append]; exact hp.own), by rw [List.length_append, ← h.len]; rfl, fun g hg => World.ownsRow.lt hp.own g (ownBlk.2 hg)⟩, (Frm.refl _ _).grown hp.grown (fun g hg => .inl (ownBlk.1 hg)), hpl⟩
  · obtain ⟨a', c', w', hr, ho, hf, hn⟩ := run_appT (P := Try.prog) base 81 ty 85 i0 (.agg #[.int .i64 0, .int .u64 0, .slice none 0 0]) 3 40 Try.underlying81 hinf hz0 rfl (by omega) hz1 hz2 (by omega) a c (sc db Y) h1 (by rw [sc_len, h.len]) ad 1 cc (sc db [x]) hB (by rw [sc_len]; rfl) (sc_one _ _) (by omega) (by omega) hb h2
    exact ⟨a', c', w', hr, ⟨.inl (by rw [sc_append]; exact ho), by rw [List.length_append, ← h.len]; rfl, fun g hg => World.ownsRow.lt ho g (ownBlk.2 hg)⟩, hf.weak (by simp), fun g hg => .inr (hn g hg)⟩
/-- Nothing appended to a full row. -/
theorem run_app0 {P : Program} (t ty e : TypeId) (i : TypeInfo) (ht : P.underlying t = some (.slice e)) (hi : P.info? e = some i) (a : Option Addr) (n : Nat) (ad : Option Addr) (c : Nat) (w : World) :
    (Builtin.append_ #[t, t] ty #[.slice a n n, .slice ad 0 c]).run P w = .ok (.slice a n n) w := by
  have hl : ∀ x : Addr, (loadCells x 0).run P w = .ok #[] w := fun x => by simpa using run_loadCells_list (P := P) (w := w) x [] (by simp)
  cases a with
  | none => cases ad <;> simp [Builtin.append_, run_underlying ht, sizeOf, typeInfo, hi, Builtin.lenOf, Builtin.firstCells, hl]
  | some y => cases ad <;> simp [Builtin.append_, run_underlying ht, sizeOf, typeInfo, hi, Builtin.lenOf, Builtin.firstCells, storeCells, hl]
def cut3 (a : Option Addr) (cap lo : Nat) : Option Addr := if cap = lo then a else a.map (·.add (lo * 3))
theorem run_cut3 (w : World) (a : Option Addr) (n cap lo : Nat) (h1 : lo ≤ n) :
    (Instr.slice 81 (.slice a n cap) (some (.int .i64 (lo : Nat))) none none).run Try.prog w = .ok (.slice (cut3 a cap lo) (n - lo) (cap - lo)) w := by
  have ht' : Try.prog.underlying 81 = some (.slice (Try.prog.elem 81)) := by simp [Program.elem, Try.underlying81]
  have he : Try.prog.elem 81 = 85 := by simp [Program.elem, Try.underlying81]
  rw [run_slice_l w 81 _ _ _ ht' .i64 _ (by omega) (by omega), he, sizeSn3]
  simp [Result.andThen, sliced, cut3]
theorem run_head3 (w : World) (a : Option Addr) (n cap hi : Nat) (h3 : hi ≤ cap) :
    (Instr.slice 81 (.slice a n cap) none (some (.int .i64 (hi : Nat))) (some (.int .i64 (hi : Nat)))).run Try.prog w = .ok (.slice a hi hi) w := by
  have ht' : Try.prog.underlying 81 = some (.slice (Try.prog.elem 81)) := by simp [Program.elem, Try.underlying81]
  have he : Try.prog.elem 81 = 85 := by simp [Program.elem, Try.underlying81]
  rw [run_slice_hm w 81 _ _ _ ht' .i64 .i64 _ _ (by omega) (by omega) (by omega), he, sizeSn3]
  have := head_map a
  simp [Result.andThen, sliced, this]
/-- One less. -/
theorem way_less {ty : TypeId} {k : Nat} (h : WayAt w base a n c db Y) (hk : k < n) (hfit : n ≤ 100000000) (hb : base ≤ w.heap.size) :
    ∃ a' c' w', (Builtin.append_ #[81, 81] ty #[.slice a k k, .slice (cut3 a c (k + 1)) (n - (k + 1)) (c - (k + 1))]).run Try.prog w = .ok (.slice a' (n - 1) c') w' ∧ WayAt w' base a' (n - 1) c' db (Y.eraseIdx k) ∧ Frm [] w w' ∧ (∀ g ∈ blk a', g ∈ blk a ∨ w.heap.size ≤ g) := by
  obtain ⟨i0, hinf, hz0, hz1, hz2⟩ := info_parts infoSn3
  have hle := h.le
  have hv := h.vals
  have hYk : k < Y.length := by rw [← h.len]; exact hk
  have hv1 : ValsAt w a (sc db (Y.take k)) := by
    rcases hv with h0 | ⟨b, off, rfl, hc⟩
    · have := congrArg List.length h0
      rw [sc_len, List.length_nil] at this; omega
    · refine .inr ⟨b, off, rfl, fun i u hu => hc i u ?_⟩
      rw [sc_take, List.getElem?_take] at hu
      by_cases hi : i < k * 3
      · simpa [hi] using hu
      · simp [hi] at hu
  have hn1 : (Y.take k).length = k := by rw [List.length_take]; omega
  have hn2 : (Y.drop (k + 1)).length = n - (k + 1) := by rw [List.length_drop, h.len]
  have her : Y.eraseIdx k = Y.take k ++ Y.drop (k + 1) := List.eraseIdx_eq_take_drop_succ Y k
  have hlen : n - 1 = (Y.eraseIdx k).length := by rw [her, List.length_append, hn1, hn2]; omega
  by_cases hlast : n - (k + 1) = 0
  · have hd : Y.drop (k + 1) = [] := List.eq_nil_of_length_eq_zero (by rw [hn2]; exact hlast)
    rw [hlast, show n - 1 = k by omega]
    refine ⟨a, k, w, run_app0 (P := Try.prog) _ _ _ i0 Try.underlying81 hinf a k _ _ w, ⟨.inr ⟨rfl, by rw [her, hd, List.append_nil]; exact hv1, fun h0 => by have := hle.2 h0; omega⟩, by rw [← hlen]; omega, h.lt⟩, Frm.refl _ _, fun g hg => .inl hg⟩
  · have hv2 : ValsAt w (cut3 a c (k + 1)) (sc db (Y.drop (k + 1))) := by
      rcases hv with h0 | ⟨b, off, rfl, hc⟩
      · have := congrArg List.length h0
        rw [sc_len, List.length_nil] at this; omega
      · have hcn : ¬ c = k + 1 := by omega
        unfold cut3
        rw [if_neg hcn]
        refine .inr ⟨b, off + (k + 1) * 3, by simp [Addr.add], fun i u hu => ?_⟩
        rw [sc_drop, List.getElem?_drop] at hu
        have := hc _ u hu
        rw [Nat.add_assoc]; exact this
    have hcn : cut3 a c (k + 1) = none → c - (k + 1) = 0 := fun h0 => by
      unfold cut3 at h0
      by_cases hc : c = k + 1
      · omega
      · rw [if_neg hc] at h0
        have : a = none := by simpa using h0
        have := hle.2 this; omega
    have han : a = none → k = 0 := fun h0 => by have := hle.2 h0; omega
    obtain ⟨a', c', w', hr, ho, hf, hn⟩ := run_appT (P := Try.prog) base 81 ty 85 i0 (.agg #[.int .i64 0, .int .u64 0, .slice none 0 0]) 3 40 Try.underlying81 hinf hz0 rfl (by omega) hz1 hz2 (by omega) a k (sc db (Y.take k)) hv1 (by rw [sc_len, hn1]) (cut3 a c (k + 1)) (n - (k + 1)) (c - (k + 1)) (sc db (Y.drop (k + 1))) hv2 (by rw [sc_len, hn2]) (sc_one _ _) (by omega) (by omega) hb han
    rw [show k + (n - (k + 1)) = n - 1 by omega] at hr ho
    exact ⟨a', c', w', hr, ⟨.inl (by rw [her, sc_append]; exact ho), hlen, fun g hg => World.ownsRow.lt ho g (ownBlk.2 hg)⟩, hf, fun g hg => .inr (hn g hg)⟩
end
/-- Append, by what it comes to. -/
theorem step_appRun {P : Program} {w : World} {ops : Array Oper} {o : Oper} {a : Act} {K : Act → World → Prop} {Q : Exit → Act → World → Prop} {E : Prop} (hw : Region.wanted o (yielded ops a.tmps) = true) (s x : Operand) (t : TypeId)
    (ho : o.op = .call { callee := .builtin .append, args := #[s, x], argTypes := #[t, t] }) (vs vx : Value) (hs : a.eval s = vs) (hx : a.eval x = vx) {v' : Value} {w' : World}
    (hr : (Builtin.append_ #[t, t] o.type #[vs, vx]).run P w = .ok v' w') (h : K (a.put o.dst v') w') :
    if Region.wanted o (yielded ops a.tmps) = true then Oper.wp P o a w K Q else E := by
  rw [if_pos hw]
  unfold Oper.wp execOp
  simp only [ho, resolve, invoke, builtin, Sem.run_bind, Sem.run_pure, Result.andThen_ok, List.map_toArray, List.map_cons, List.map_nil, hs, hx, hr]
  exact h
theorem wpList_appRun {P : Program} {w : World} {ops : Array Oper} {rest : List Oper} {o : Oper} {a : Act} {Q : Exit → Act → World → Prop} (hgd : o.guard = none) (s x : Operand) (t : TypeId)
    (ho : o.op = .call { callee := .builtin .append, args := #[s, x], argTypes := #[t, t] }) (vs vx : Value) (hs : a.eval s = vs) (hx : a.eval x = vx) {v' : Value} {w' : World}
    (hr : (Builtin.append_ #[t, t] o.type #[vs, vx]).run P w = .ok v' w') (h : wpList P ops Q rest (a.put o.dst v') w') : wpList P ops Q (o :: rest) a w := by
  refine wpList_plain hgd fun K hK => ?_
  unfold Oper.wp execOp
  simp only [ho, resolve, invoke, builtin, Sem.run_bind, Sem.run_pure, Result.andThen_ok, List.map_toArray, List.map_cons, List.map_nil, hs, hx, hr]
  exact hK _ _ h
end Go.Proofs.Ytecfoomjpjcldaa
