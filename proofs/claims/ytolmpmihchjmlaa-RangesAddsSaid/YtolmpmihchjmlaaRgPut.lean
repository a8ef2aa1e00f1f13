/- Contract of the document's put: a number more in a rising list. -/
import Derived.Test.YtolmpmihchjmlaaRgRemove
import Derived.Test.YtolmpmihchjmlaaRgSetMath
namespace Go.Proofs.Ytolmpmihchjmlaa
open Go.RowKit

theorem Try.info33 : (Try.prog.info? 33).map (fun i => (i.zero, i.size, i.bytes)) = some (some (.int .u64 0), 1, 8) := by kernel_rfl
def uv (c : Nat) : Value := .int .u64 (c : Int)
/-- A slice at a reads as the numbers l. -/
def Uw (w : World) (a : Option Addr) (l : List Nat) : Prop :=
  (∀ c ∈ l, c < 18446744073709551616) ∧ (0 < l.length → ∃ b off, a = some ⟨b, off, none⟩ ∧ ∀ i, i < l.length → w.cell? ⟨b, off + i, none⟩ = some (.int .u64 (l.getD i 0 : Nat)))
theorem Uw.nil (w : World) (a : Option Addr) : Uw w a [] := ⟨by simp, fun h => absurd h (by simp)⟩
theorem Uw.keep {w w' : World} {a : Option Addr} {l : List Nat} (h : Uw w a l) (hf : Frm [] w w') : Uw w' a l := by
  refine ⟨h.1, fun h0 => ?_⟩
  obtain ⟨b, off, rfl, hc⟩ := h.2 h0
  exact ⟨b, off, rfl, fun i hi => (hf.cell (p := ⟨b, off + i, none⟩) (block_lt_of_cell (hc i hi)) (by simp)).trans (hc i hi)⟩
theorem u_bd {l : List Nat} (h : ∀ c ∈ l, c < 18446744073709551616) (i : Nat) : l.getD i 0 < 18446744073709551616 := by
  by_cases hi : i < l.length
  · exact h _ (mem_getD hi)
  · have e : l.getD i 0 = 0 := by simp [Nat.le_of_not_lt hi]
    rw [e]; simp
theorem getD_uv {l : List Nat} {i : Nat} (h : i < l.length) : (l.map uv)[i]? = some (uv (l.getD i 0)) := by simp [h]
theorem uv_one (l : List Nat) : ∀ u ∈ l.map uv, u.oneCell' = true := by
  intro u hu
  obtain ⟨c, _, rfl⟩ := List.mem_map.1 hu
  rfl
theorem Uw.take {w : World} {a : Option Addr} {l : List Nat} (h : Uw w a l) (k : Nat) : Uw w a (l.take k) := by
  refine ⟨fun p hp => h.1 p (List.mem_of_mem_take hp), fun h0 => ?_⟩
  have hl : (l.take k).length ≤ l.length := List.length_take_le' k l
  obtain ⟨b, off, ha, hc⟩ := h.2 (by omega)
  refine ⟨b, off, ha, fun i hi => ?_⟩
  rw [List.length_take] at hi
  have e : (l.take k).getD i 0 = l.getD i 0 := by simp [List.getD, show i < k by omega]
  rw [e]
  exact hc i (by omega)
def cutU (a : Option Addr) (cap lo : Nat) : Option Addr := if cap = lo then a else a.map (·.add lo)
theorem Uw.cut {w : World} {a : Option Addr} {l : List Nat} {cap : Nat} (h : Uw w a l) (hc : l.length ≤ cap) (lo : Nat) : Uw w (cutU a cap lo) (l.drop lo) := by
  refine ⟨fun p hp => h.1 p (List.mem_of_mem_drop hp), fun h0 => ?_⟩
  rw [List.length_drop] at h0
  obtain ⟨b, off, rfl, hcl⟩ := h.2 (by omega)
  refine ⟨b, off + lo, ?_, fun i hi => ?_⟩
  · unfold cutU
    rw [if_neg (by omega)]
    simp [addr_add]
  · rw [List.length_drop] at hi
    have e : (l.drop lo).getD i 0 = l.getD (lo + i) 0 := by simp [List.getD, List.getElem?_drop]
    rw [e]
    have := hcl (lo + i) (by omega)
    rw [← Nat.add_assoc] at this
    exact this
theorem cutU_none {a : Option Addr} {cap lo : Nat} (h : a = none → cap = 0) (hc : cutU a cap lo = none) : cap - lo = 0 := by
  unfold cutU at hc
  by_cases hlo : cap = lo
  · omega
  · rw [if_neg hlo] at hc
    have := h (by simpa using hc)
    omega
theorem size_u64 (w : World) : (Go.sizeOf 33).run Try.prog w = .ok 1 w := by kernel_rfl
theorem run_cutU_h (w : World) (a : Option Addr) (n cap hi : Nat) (h : Int) (hh : h = (hi : Nat)) (h2 : hi ≤ cap) :
    (Instr.slice 84 (.slice a n cap) none (some (.int .i64 h)) none).run Try.prog w = .ok (.slice (cutU a cap 0) hi cap) w := by
  subst hh
  have ht' : Try.prog.underlying 84 = some (.slice (Try.prog.elem 84)) := by simp [Program.elem, Try.underlying84]
  have he : Try.prog.elem 84 = 33 := by simp [Program.elem, Try.underlying84]
  rw [run_slice_h w _ _ _ _ ht' _ _ (by omega) (by omega), he, size_u64]
  simp [Result.andThen, sliced, cutU]
theorem run_cutU_l (w : World) (a : Option Addr) (n cap lo : Nat) (l : Int) (hl : l = (lo : Nat)) (h1 : lo ≤ n) :
    (Instr.slice 84 (.slice a n cap) (some (.int .i64 l)) none none).run Try.prog w = .ok (.slice (cutU a cap lo) (n - lo) (cap - lo)) w := by
  subst hl
  have ht' : Try.prog.underlying 84 = some (.slice (Try.prog.elem 84)) := by simp [Program.elem, Try.underlying84]
  have he : Try.prog.elem 84 = 33 := by simp [Program.elem, Try.underlying84]
  rw [run_slice_l w _ _ _ _ ht' _ _ (by omega) (by omega), he, size_u64]
  simp [Result.andThen, sliced, cutU]

/-- A row of the call's own with the numbers l. -/
def OwnU (w : World) (base : Nat) (a : Option Addr) (cap : Nat) (l : List Nat) : Prop := w.ownsRow base 33 1 (.slice a l.length cap) l.length (l.map uv)
theorem OwnU.uw {w : World} {base : Nat} {a : Option Addr} {cap : Nat} {l : List Nat} (h : OwnU w base a cap l) (hb : ∀ c ∈ l, c < 18446744073709551616) : Uw w a l ∧ (a = none → cap = 0) ∧ l.length ≤ cap ∧ cap ≤ 9223372036854775807 := by
  refine ⟨⟨hb, fun h0 => ?_⟩, ?_⟩
  · rcases h.2 with ⟨_, h1⟩ | ⟨g, cap', cur, hv, hb, hg, hnc, hcm, hcs, ht⟩
    · omega
    · simp only [Value.slice.injEq] at hv
      obtain ⟨rfl, _, rfl⟩ := hv
      refine ⟨g, 0, rfl, fun i hi => ?_⟩
      have hh : w.ownsRow base 33 1 (.slice (some ⟨g, 0, none⟩) l.length cap) l.length (l.map uv) := h
      rw [Nat.zero_add, hh.cellAt i (by omega), getD_uv hi]; rfl
  · rcases h.2 with ⟨hv, h1⟩ | ⟨g, cap', cur, hv, hb, hg, hnc, hcm, hcs, ht⟩
    · simp only [Value.slice.injEq] at hv
      exact ⟨fun _ => hv.2.2, by omega, by rw [hv.2.2]; simp⟩
    · simp only [Value.slice.injEq] at hv
      obtain ⟨rfl, _, rfl⟩ := hv
      unfold maxLen at hcm
      exact ⟨fun h => by simp at h, hnc, by omega⟩
theorem OwnU.keep {w w' : World} {base : Nat} {a : Option Addr} {cap : Nat} {l : List Nat} {S : List Nat} (h : OwnU w base a cap l) (hf : Frm S w w') (hn : ∀ x, a = some x → x.block ∉ S) : OwnU w' base a cap l :=
  hf.own h (fun g hg => by
    cases a with
    | none => simp [Value.ownBlock] at hg
    | some x => simp only [Value.ownBlock, Option.some.injEq] at hg; subst hg; exact hn x rfl)
theorem OwnU.lt {w : World} {base : Nat} {a : Option Addr} {cap : Nat} {l : List Nat} (h : OwnU w base a cap l) : ∀ x, a = some x → base ≤ x.block ∧ x.block < w.heap.size := fun x hx => World.ownsRow.lt h x.block (by rw [hx]; rfl)

section
variable {P : Program} {w : World}
structure AppU (w w' : World) (base : Nat) (e : TypeId) (v : Value) (n m : Nat) (xs : List Value) (l : List Nat) (a' : Option Addr) (cap' : Nat) : Prop where
  own : w'.ownsRow base e 1 (.slice a' (n + m) cap') (n + m) (xs ++ l.map uv)
  grown : w.grownBy w' v.ownBlock
  place : (Value.slice a' (n + m) cap').ownBlock = v.ownBlock ∨ (Value.slice a' (n + m) cap').ownBlock = some w.heap.size
theorem run_appU (base : Nat) (t ty e : TypeId) (i : TypeInfo) (ht : P.underlying t = some (.slice e)) (hi : P.info? e = some i) (hz : i.zero = some (.int .u64 0))
    (hsize : i.size = 1) (hby : i.bytes = 8) (v : Value) (n : Nat) (xs : List Value) (hown : w.ownsRow base e 1 v n xs)
    (ad : Option Addr) (m c : Nat) (l : List Nat) (hB : Uw w ad l) (hm : m = l.length) (hnil : ad = none → c = 0)
    (hfit : n + m ≤ 1000000) (hbase : base ≤ w.heap.size) :
    ∃ a' cap' w', (Builtin.append_ #[t, t] ty #[v, .slice ad m c]).run P w = .ok (.slice a' (n + m) cap') w' ∧ AppU w w' base e v n m xs l a' cap' := by
  have shape : ∀ (v' : Value) (w' : World) (k : Nat) (ys : List Value), w'.ownsRow base e 1 v' k ys → ∃ a' cap', v' = .slice a' k cap' := by
    intro v' w' k ys h
    rcases h.2 with ⟨hv, h0⟩ | ⟨g, cap', cur, hv, _⟩
    · exact ⟨none, 0, by rw [hv, h0]⟩
    · exact ⟨_, cap', hv⟩
  cases ad with
  | none =>
    have hc0 := hnil rfl
    subst hc0
    have hl0 : l = [] := by
      rcases Nat.eq_zero_or_pos l.length with h | h
      · exact List.eq_nil_of_length_eq_zero h
      · obtain ⟨b, off, h, _⟩ := hB.2 h; cases h
    subst hl0
    have hm0 : m = 0 := by simpa using hm
    subst hm0
    obtain ⟨a', cap', hv⟩ := shape v w n xs hown
    subst hv
    exact ⟨a', cap', w, run_append_owned_none (P := P) (w := w) base t ty e i 1 ht hi _ n xs hown, by simpa using hown, World.grownBy.refl _ _, .inl rfl⟩
  | some x =>
    have hnews : ∀ j u, (l.map uv)[j]? = some u → w.cell? (x.add j) = some u := by
      rcases Nat.eq_zero_or_pos l.length with h | h
      · have : l = [] := List.eq_nil_of_length_eq_zero h
        subst this; intro j u hu; simp at hu
      · obtain ⟨b, off, h, hh⟩ := hB.2 h
        cases h
        intro j u hu
        have hj : j < l.length := by
          rcases Nat.lt_or_ge j l.length with h' | h'
          · exact h'
          · rw [List.getElem?_eq_none (by simpa using h')] at hu; cases hu
        rw [getD_uv hj] at hu
        cases hu
        rw [addr_add]; exact hh j hj
    obtain ⟨v', w', hr, ho, hg, _, hpl⟩ := run_append_own_at (P := P) w base t ty e i (.int .u64 0) 1 8 ht hi hz hsize hby rfl (by decide) v n xs hown x m c (l.map uv) (by simp [hm]) hnews (uv_one l) (by unfold maxLen; omega) (by omega) hbase
    obtain ⟨a', cap', hv⟩ := shape v' w' (n + m) _ ho
    subst hv
    exact ⟨a', cap', w', hr, ho, hg, hpl⟩
theorem wpList_appU {ops : Array Oper} {rest : List Oper} {o : Oper} {a : Act} {Q : Exit → Act → World → Prop} (hgd : o.guard = none) (s x : Operand) (t : TypeId)
    (ho : o.op = .call { callee := .builtin .append, args := #[s, x], argTypes := #[t, t] })
    (base : Nat) (e : TypeId) (i : TypeInfo) (ht : P.underlying t = some (.slice e)) (hi : P.info? e = some i) (hz : i.zero = some (.int .u64 0))
    (hsize : i.size = 1) (hby : i.bytes = 8) (v : Value) (n : Nat) (xs : List Value) (hs : a.eval s = v) (hown : w.ownsRow base e 1 v n xs)
    (ad : Option Addr) (m c : Nat) (l : List Nat) (hx : a.eval x = .slice ad m c) (hB : Uw w ad l) (hm : m = l.length) (hnil : ad = none → c = 0)
    (hfit : n + m ≤ 1000000) (hbase : base ≤ w.heap.size)
    (h : ∀ a' cap' w', AppU w w' base e v n m xs l a' cap' → wpList P ops Q rest (a.put o.dst (.slice a' (n + m) cap')) w') : wpList P ops Q (o :: rest) a w := by
  refine wpList_plain hgd fun K hK => ?_
  obtain ⟨a', cap', w', hr, h2⟩ := run_appU (P := P) base t o.type e i ht hi hz hsize hby v n xs hown ad m c l hB hm hnil hfit hbase
  unfold Oper.wp execOp
  simp only [ho, resolve, invoke, builtin, Sem.run_bind, Sem.run_pure, Result.andThen_ok, List.map_toArray, List.map_cons, List.map_nil, hs, hx, hr]
  exact hK _ _ (h a' cap' w' h2)
theorem step_appU {ops : Array Oper} {o : Oper} {a : Act} {K : Act → World → Prop} {Q : Exit → Act → World → Prop} {E : Prop} (hgd : o.guard = none) (s x : Operand) (t : TypeId)
    (ho : o.op = .call { callee := .builtin .append, args := #[s, x], argTypes := #[t, t] })
    (base : Nat) (e : TypeId) (i : TypeInfo) (ht : P.underlying t = some (.slice e)) (hi : P.info? e = some i) (hz : i.zero = some (.int .u64 0))
    (hsize : i.size = 1) (hby : i.bytes = 8) (v : Value) (n : Nat) (xs : List Value) (hs : a.eval s = v) (hown : w.ownsRow base e 1 v n xs)
    (ad : Option Addr) (m c : Nat) (l : List Nat) (hx : a.eval x = .slice ad m c) (hB : Uw w ad l) (hm : m = l.length) (hnil : ad = none → c = 0)
    (hfit : n + m ≤ 1000000) (hbase : base ≤ w.heap.size)
    (h : ∀ a' cap' w', AppU w w' base e v n m xs l a' cap' → K (a.put o.dst (.slice a' (n + m) cap')) w') :
    if Region.wanted o (yielded ops a.tmps) = true then Oper.wp P o a w K Q else E := by
  have hw : Region.wanted o (yielded ops a.tmps) = true := by simp [Region.wanted, hgd]
  rw [if_pos hw]
  obtain ⟨a', cap', w', hr, h2⟩ := run_appU (P := P) base t o.type e i ht hi hz hsize hby v n xs hown ad m c l hB hm hnil hfit hbase
  unfold Oper.wp execOp
  simp only [ho, resolve, invoke, builtin, Sem.run_bind, Sem.run_pure, Result.andThen_ok, List.map_toArray, List.map_cons, List.map_nil, hs, hx, hr]
  exact h a' cap' w' h2
end
theorem frm_appU {S : List Nat} {w w1 w2 : World} {base : Nat} {e : TypeId} {a : Option Addr} {n n' cap m : Nat} {xs : List Value} {l : List Nat} {a' : Option Addr} {cap' : Nat} (hf : Frm S w w1) (h : AppU w1 w2 base e (.slice a n' cap) n m xs l a' cap') (ha : ∀ x, a = some x → x.block ∈ S ∨ w.heap.size ≤ x.block) : Frm S w w2 :=
  hf.grown h.grown (fun k hk => by
    cases a with
    | none => simp [Value.ownBlock] at hk
    | some x => simp only [Value.ownBlock, Option.some.injEq] at hk; subst hk; exact ha x rfl)
theorem own_appU {w w' : World} {base : Nat} {v : Value} {n m : Nat} {l l2 : List Nat} {a' : Option Addr} {c' : Nat} (h : AppU w w' base 33 v n m (l.map uv) l2 a' c') (hn : n = l.length) (hm : m = l2.length) : OwnU w' base a' c' (l ++ l2) := by
  subst hn hm
  have h1 := h.own
  rw [← List.map_append] at h1
  unfold OwnU
  rw [List.length_append]; exact h1

/-- A slice of numbers. -/
def UIn (w : World) (a : Option Addr) (cap : Nat) (l : List Nat) : Prop := Uw w a l ∧ (a = none → cap = 0) ∧ l.length ≤ cap ∧ cap ≤ 9223372036854775807
theorem UIn.keep {w w' : World} {a : Option Addr} {cap : Nat} {l : List Nat} (h : UIn w a cap l) (hf : Frm [] w w') : UIn w' a cap l := ⟨h.1.keep hf, h.2⟩
/-- A call hands back rising numbers: those of S, so many at most. -/
def GotU (w : World) (S : Nat → Prop) (m : Nat) (e : Ending) (w' : World) : Prop :=
  ∃ (a' : Option Addr) (k cap' : Nat) (l' : List Nat), e = .returned (.slice a' k cap') ∧ Hid (k = l'.length) ∧ Hid (UIn w' a' cap' l') ∧ Hid (Up l' ∧ (∀ x, x ∈ l' ↔ S x)) ∧ l'.length ≤ m ∧ Hid (Frm [] w w')
end Go.Proofs.Ytolmpmihchjmlaa
