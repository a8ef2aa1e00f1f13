/- A slice of bytes at the head of a block of the call's own, with spare room or without (Hd); what appending to it leaves, in a plain region and in one that draws its order. They speak of no program. -/
import Derived.Test.YtbdgmpfdcmmfhaaDoorApp
import Derived.Laws.Slices
namespace Go.Proofs.YtbdgmpfdcmmfhaaDoor
open Go.RowKit

/-- The block that a slice lies in, if it has one. -/
def blk (a : Option Addr) : List Nat := (a.map (·.block)).toList
@[simp] theorem blk_none : blk none = [] := rfl
@[simp] theorem blk_some (x : Addr) : blk (some x) = [x.block] := rfl
theorem mem_blk {a : Option Addr} {g : Nat} : g ∈ blk a ↔ ∃ x, a = some x ∧ x.block = g := by
  cases a with
  | none => simp
  | some y => simp; exact ⟨fun h => h.symm, fun h => h.symm⟩

/-- The slice at a, of capacity cap, is the bytes l: nil, or the head of a block from B on. -/
def Hd (w : World) (B : Nat) (e : TypeId) (a : Option Addr) (cap : Nat) (l : List Nat) : Prop :=
  (a = none ∧ l = [] ∧ cap = 0) ∨
  ∃ g cur, a = some ⟨g, 0, none⟩ ∧ B ≤ g ∧ w.heap[g]? = some (.cells cur e (0, 0)) ∧ l.length ≤ cap ∧ cap ≤ maxLen ∧ cap ≤ cur.size ∧ cur.toList.take l.length = l.map u8v

section
variable {w w' : World} {B : Nat} {e : TypeId} {a : Option Addr} {cap : Nat} {l : List Nat}
theorem Hd.nil (w : World) (B : Nat) (e : TypeId) : Hd w B e none 0 [] := .inl ⟨rfl, rfl, rfl⟩
theorem Hd.ofOwn {n : Nat} (h : w.ownsRow B e 1 (.slice a n cap) n (l.map u8v)) : n = l.length ∧ Hd w B e a cap l := by
  have hn : n = l.length := by have := h.1; simpa using this.symm
  refine ⟨hn, ?_⟩
  rcases h.2 with ⟨hv, h0⟩ | ⟨g, cap', cur, hv, hb, hg, hnc, hcm, hcs, ht⟩
  · simp only [Value.slice.injEq] at hv
    exact .inl ⟨hv.1, List.eq_nil_of_length_eq_zero (by omega), hv.2.2⟩
  · simp only [Value.slice.injEq] at hv
    obtain ⟨rfl, _, rfl⟩ := hv
    refine .inr ⟨g, cur, rfl, hb, hg, by omega, hcm, by omega, ?_⟩
    rw [← hn]; simpa using ht
theorem Hd.cap_le (h : Hd w B e a cap l) : l.length ≤ cap ∧ cap ≤ maxLen := by
  rcases h with ⟨_, rfl, rfl⟩ | ⟨g, cur, _, _, _, h1, h2, _⟩
  · simp
  · exact ⟨h1, h2⟩
theorem Hd.blk_lt (h : Hd w B e a cap l) : ∀ g ∈ blk a, B ≤ g ∧ g < w.heap.size := by
  intro x hx
  rcases h with ⟨rfl, _⟩ | ⟨g, cur, rfl, hb, hg, _⟩
  · simp at hx
  · simp at hx; subst hx; exact ⟨hb, lt_of_block hg⟩
theorem Hd.cellAt {g : Nat} (h : Hd w B e (some ⟨g, 0, none⟩) cap l) {i : Nat} (hi : i < l.length) : w.cell? ⟨g, i, none⟩ = some (u8v (l.getD i 0)) := by
  rcases h with ⟨h, _⟩ | ⟨g', cur, h, hb, hg, h1, h2, h3, ht⟩
  · cases h
  · cases h
    rw [cell_of_row w g i cur e (0, 0) hg]
    have e1 : (cur.toList.take l.length)[i]? = some (u8v (l.getD i 0)) := by rw [ht, getD_map_u8v hi]
    rw [List.getElem?_take, if_pos hi] at e1
    simpa using e1
theorem Hd.frozenAt {g : Nat} (h : Hd w B e (some ⟨g, 0, none⟩) cap l) (i : Nat) : w.frozen? ⟨g, i, none⟩ = false := by
  rcases h with ⟨h, _⟩ | ⟨g', cur, h, hb, hg, h1, h2, h3, ht⟩
  · cases h
  · cases h
    exact frozen_of_row w g i cur e hg
theorem Hd.bytes (h : Hd w B e a cap l) (h8 : ∀ c ∈ l, c < 256) : Bytes w a l := by
  have hc := h.cap_le
  unfold maxLen at hc
  refine ⟨h8, by omega, ?_⟩
  rcases h with ⟨_, rfl, _⟩ | ⟨g, cur, rfl, hb, hg, h1, h2, h3, ht⟩
  · exact .inl rfl
  · right
    refine ⟨g, 0, rfl, fun i hi => ?_⟩
    rw [Nat.zero_add]
    exact Hd.cellAt (.inr ⟨g, cur, rfl, hb, hg, h1, h2, h3, ht⟩) hi
theorem Hd.none_cap (h : Hd w B e a cap l) : a = none → cap = 0 := by
  intro ha
  rcases h with ⟨_, _, h⟩ | ⟨g, cur, rfl, _⟩
  · exact h
  · cases ha
theorem Hd.keep {S : List Nat} (h : Hd w B e a cap l) (hf : Frm S w w') (hn : ∀ g ∈ blk a, g ∉ S) : Hd w' B e a cap l := by
  rcases h with h | ⟨g, cur, rfl, hb, hg, h1⟩
  · exact .inl h
  · exact .inr ⟨g, cur, rfl, hb, by rw [hf.block g (lt_of_block hg) (hn g (by simp))]; exact hg, h1⟩
theorem Hd.rebase (h : Hd w B e a cap l) {B' : Nat} (hB : B' ≤ B) : Hd w B' e a cap l := by
  rcases h with h | ⟨g, cur, rfl, hb, hr⟩
  · exact .inl h
  · exact .inr ⟨g, cur, rfl, Nat.le_trans hB hb, hr⟩
/-- The head of a slice, without spare room. -/
theorem Hd.tight (h : Hd w B e a cap l) (n : Nat) (hn : n ≤ l.length) : Hd w B e a n (l.take n) := by
  rcases h with ⟨rfl, rfl, rfl⟩ | ⟨g, cur, rfl, hb, hg, h1, h2, h3, ht⟩
  · have : n = 0 := by simpa using hn
    subst this; exact .inl ⟨rfl, rfl, rfl⟩
  · refine .inr ⟨g, cur, rfl, hb, hg, by simp; omega, by omega, by omega, ?_⟩
    have e1 : (l.take n).length = n := by simp; omega
    rw [e1, List.map_take, ← ht, List.take_take]
    congr 1; omega
/-- The head of a slice, its capacity as it was. -/
theorem Hd.less (h : Hd w B e a cap l) (n : Nat) : Hd w B e a cap (l.take n) := by
  rcases h with ⟨rfl, rfl, rfl⟩ | ⟨g, cur, rfl, hb, hg, h1, h2, h3, ht⟩
  · exact .inl ⟨rfl, by simp, rfl⟩
  · refine .inr ⟨g, cur, rfl, hb, hg, by simp; omega, h2, h3, ?_⟩
    rw [List.map_take, ← ht, List.take_take]
    congr 1; simp
/-- A byte of it is stored anew. -/
theorem Hd.put {g : Nat} (h : Hd w B e (some ⟨g, 0, none⟩) cap l) (i c : Nat) : Hd (w.setCell ⟨g, i, none⟩ (u8v c)) B e (some ⟨g, 0, none⟩) cap (l.set i c) := by
  rcases h with ⟨h, _⟩ | ⟨g', cur, h, hb, hg, h1, h2, h3, ht⟩
  · cases h
  · cases h
    refine .inr ⟨g, cur.setIfInBounds i (u8v c), rfl, hb, heap_setCell_same w g i cur e (u8v c) hg, by simpa using h1, h2, by simpa using h3, ?_⟩
    rw [List.length_set, Array.toList_setIfInBounds, List.take_set, ht, List.map_set]
end

section
variable {P : Program} {w : World}
/-- What appending the bytes b to such a slice leaves. -/
structure HApp (w w' : World) (B : Nat) (e : TypeId) (a : Option Addr) (l b : List Nat) (a' : Option Addr) (cap' : Nat) : Prop where
  head : Hd w' B e a' cap' (l ++ b)
  frm : Frm (blk a) w w'
  place : ∀ g ∈ blk a', g ∈ blk a ∨ w.heap.size ≤ g

theorem run_happ (B : Nat) (t ty e : TypeId) (i : TypeInfo) (ht : P.underlying t = some (.slice e)) (hi : P.info? e = some i) (hz : i.zero = some (.int .u8 0))
    (hsize : i.size = 1) (hby : i.bytes = 1) (a : Option Addr) (n cap : Nat) (l : List Nat) (h : Hd w B e a cap l) (hn : n = l.length)
    (ad : Option Addr) (m c : Nat) (b : List Nat) (hB : Bytes w ad b) (hm : m = b.length) (hnil : ad = none → c = 0)
    (hfit : n + m ≤ 140737488355328) (hbase : B ≤ w.heap.size) :
    ∃ a' cap' w', (Builtin.append_ #[t, t] ty #[.slice a n cap, .slice ad m c]).run P w = .ok (.slice a' (n + m) cap') w' ∧ HApp w w' B e a l b a' cap' := by
  have hcl := h.cap_le
  obtain ⟨h8, hl, hc⟩ := hB
  cases ad with
  | none =>
    have hc0 := hnil rfl
    subst hc0
    have hl0 : b = [] := by
      rcases hc with h | ⟨_, _, h, _⟩
      · exact h
      · cases h
    subst hl0
    have hm0 : m = 0 := by simpa using hm
    subst hm0
    refine ⟨a, cap, w, ?_, by simpa using h, Frm.refl _ _, fun g hg => .inl hg⟩
    have hle : n ≤ cap := by omega
    cases a <;> simp [Builtin.append_, run_underlying ht, sizeOf, typeInfo, hi, Builtin.lenOf, Builtin.firstCells, hle, storeCells]
  | some x =>
    have hnews : ∀ j u, (b.map u8v)[j]? = some u → w.cell? (x.add j) = some u := by
      rcases hc with h | ⟨_, off, h, hh⟩
      · subst h; intro j u hu; simp at hu
      · cases h; exact Bytes.news hh
    have own : ∀ v' w', w'.ownsRow B e 1 v' (n + m) (l.map u8v ++ b.map u8v) → ∃ a' cap', v' = .slice a' (n + m) cap' ∧ Hd w' B e a' cap' (l ++ b) := by
      intro v' w' ho
      rcases ho.2 with ⟨hv, h0⟩ | ⟨g, cap', cur, hv, _⟩
      · subst hv
        rw [← List.map_append] at ho
        exact ⟨none, 0, by rw [h0], (Hd.ofOwn (n := n + m) (by rw [h0] at ho ⊢; exact ho)).2⟩
      · subst hv
        rw [← List.map_append] at ho
        exact ⟨_, _, rfl, (Hd.ofOwn ho).2⟩
    rcases h with ⟨rfl, rfl, rfl⟩ | ⟨g, cur, rfl, hb, hg, h1, h2, h3, htk⟩
    · have hn0 : n = 0 := by simpa using hn
      subst hn0
      obtain ⟨v', w', hr, ho, hgr, _, hpl⟩ := run_append_own_at (P := P) w B t ty e i (.int .u8 0) 1 1 ht hi hz hsize hby rfl (by decide) (.slice none 0 0) 0 [] (World.ownsRow_nil w B e 1) x m c (b.map u8v) (by simp [hm]) hnews (u8v_one b) (by unfold maxLen; omega) (by omega) hbase
      obtain ⟨a', cap', rfl, hh⟩ := own v' w' (by simpa using ho)
      refine ⟨a', cap', w', hr, hh, (Frm.refl _ _).grown hgr (fun k hk => by simp [Value.ownBlock] at hk), ?_⟩
      intro g hg
      obtain ⟨y, rfl, rfl⟩ := mem_blk.1 hg
      right
      rcases hpl with h | h <;> simp [Value.ownBlock] at h
      omega
    · by_cases hroom : n + m ≤ cap
      · have hr := run_append_room (P := P) w t ty e i ht hi g n cap cur hg x m c (b.map u8v) (by simp [hm, hsize]) hnews (u8v_one b) hroom (by simp [hsize]; omega)
        refine ⟨_, _, _, hr, .inr ⟨g, _, rfl, hb, setRow_heap w g cur _ e _ hg, by simp; omega, h2, ?_, ?_⟩, ⟨rfl, rfl, rfl, by simp, fun k _ hk => setRow_other w g k _ (fun e => hk (by simp [e]))⟩, fun g hg => .inl hg⟩
        · simp only [List.size_toArray, List.length_append, List.length_take, List.length_drop, Array.length_toList, List.length_map, hsize]
          omega
        · have e1 : (l ++ b).length = (l.map u8v ++ b.map u8v).length := by simp
          rw [hsize, Nat.mul_one, hn, htk, e1, List.map_append]
          exact List.take_left
      · have holds : ∀ j u, (l.map u8v)[j]? = some u → w.cell? ((⟨g, 0, none⟩ : Addr).add j) = some u := by
          intro j u hu
          rw [addr_add, Nat.zero_add, cell_of_row w g j cur e (0, 0) hg]
          rw [← htk, List.getElem?_take] at hu
          split at hu
          · simpa using hu
          · cases hu
        obtain ⟨v', w', hr, ho, hgr⟩ := run_append_arg_grows (P := P) w t ty e i (.int .u8 0) 1 1 ht hi hz hsize hby rfl (by decide) ⟨g, 0, none⟩ n cap (l.map u8v) (by simp [hn]) holds x m c (b.map u8v) (by simp [hm]) hnews (by omega) (by unfold maxLen; omega) (by omega)
        rcases ho.2 with ⟨hv, h0⟩ | ⟨g', cap', cur', hv, hb', hg', hnc, hcm, hcs, ht'⟩
        · omega
        · subst hv
          have hgs : g' < w'.heap.size := lt_of_block hg'
          have ho' : w'.ownsRow B e 1 (.slice (some ⟨g', 0, none⟩) (n + m) cap') (n + m) ((l ++ b).map u8v) := by
            rw [List.map_append]
            exact ⟨ho.1, .inr ⟨g', cap', cur', rfl, by omega, hg', hnc, hcm, hcs, ht'⟩⟩
          exact ⟨_, _, _, hr, (Hd.ofOwn ho').2, (Frm.refl _ _).grown hgr (fun k hk => by cases hk), fun k hk => .inr (by simp at hk; omega)⟩
theorem wpList_happ {ops : Array Oper} {rest : List Oper} {o : Oper} {a : Act} {Q : Exit → Act → World → Prop} (hgd : o.guard = none) (s x : Operand) (t : TypeId)
    (ho : o.op = .call { callee := .builtin .append, args := #[s, x], argTypes := #[t, t] })
    (B : Nat) (e : TypeId) (i : TypeInfo) (ht : P.underlying t = some (.slice e)) (hi : P.info? e = some i) (hz : i.zero = some (.int .u8 0))
    (hsize : i.size = 1) (hby : i.bytes = 1) (sa : Option Addr) (n cap : Nat) (l : List Nat) (hs : a.eval s = .slice sa n cap) (hh : Hd w B e sa cap l) (hn : n = l.length)
    (ad : Option Addr) (m c : Nat) (b : List Nat) (hx : a.eval x = .slice ad m c) (hB : Bytes w ad b) (hm : m = b.length) (hnil : ad = none → c = 0)
    (hfit : n + m ≤ 140737488355328) (hbase : B ≤ w.heap.size)
    (h : ∀ a' cap' w', HApp w w' B e sa l b a' cap' → wpList P ops Q rest (a.put o.dst (.slice a' (n + m) cap')) w') : wpList P ops Q (o :: rest) a w := by
  refine wpList_plain hgd fun K hK => ?_
  obtain ⟨a', cap', w', hr, h2⟩ := run_happ (P := P) B t o.type e i ht hi hz hsize hby sa n cap l hh hn ad m c b hB hm hnil hfit hbase
  unfold Oper.wp execOp
  simp only [ho, resolve, invoke, builtin, Sem.run_bind, Sem.run_pure, Result.andThen_ok, List.map_toArray, List.map_cons, List.map_nil, hs, hx, hr]
  exact hK _ _ (h a' cap' w' h2)

theorem step_happ {ops : Array Oper} {o : Oper} {a : Act} {K : Act → World → Prop} {Q : Exit → Act → World → Prop} {E : Prop} (hgd : o.guard = none) (s x : Operand) (t : TypeId)
    (ho : o.op = .call { callee := .builtin .append, args := #[s, x], argTypes := #[t, t] })
    (B : Nat) (e : TypeId) (i : TypeInfo) (ht : P.underlying t = some (.slice e)) (hi : P.info? e = some i) (hz : i.zero = some (.int .u8 0))
    (hsize : i.size = 1) (hby : i.bytes = 1) (sa : Option Addr) (n cap : Nat) (l : List Nat) (hs : a.eval s = .slice sa n cap) (hh : Hd w B e sa cap l) (hn : n = l.length)
    (ad : Option Addr) (m c : Nat) (b : List Nat) (hx : a.eval x = .slice ad m c) (hB : Bytes w ad b) (hm : m = b.length) (hnil : ad = none → c = 0)
    (hfit : n + m ≤ 140737488355328) (hbase : B ≤ w.heap.size)
    (h : ∀ a' cap' w', HApp w w' B e sa l b a' cap' → K (a.put o.dst (.slice a' (n + m) cap')) w') :
    if Region.wanted o (yielded ops a.tmps) = true then Oper.wp P o a w K Q else E := by
  have hw : Region.wanted o (yielded ops a.tmps) = true := by simp [Region.wanted, hgd]
  rw [if_pos hw]
  obtain ⟨a', cap', w', hr, h2⟩ := run_happ (P := P) B t o.type e i ht hi hz hsize hby sa n cap l hh hn ad m c b hB hm hnil hfit hbase
  unfold Oper.wp execOp
  simp only [ho, resolve, invoke, builtin, Sem.run_bind, Sem.run_pure, Result.andThen_ok, List.map_toArray, List.map_cons, List.map_nil, hs, hx, hr]
  exact h a' cap' w' h2
end

section
variable {P : Program} {t e : TypeId}
theorem head_map (a : Option Addr) : a.map (·.add 0) = a := by
  cases a with
  | none => rfl
  | some x => simp [Addr.add]
/-- 'x[:n]' and 'x[:n:m]'. -/
theorem run_head_h (ht : P.underlying t = some (.slice e)) (hz : ∀ w, (Go.sizeOf e).run P w = .ok 1 w) (w : World) (a : Option Addr) (n cap hi : Nat) (h2 : hi ≤ cap) :
    (Instr.slice t (.slice a n cap) none (some (.int .i64 (hi : Nat))) none).run P w = .ok (.slice a hi cap) w := by
  have ht' : P.underlying t = some (.slice (P.elem t)) := by simp [Program.elem, ht]
  have he : P.elem t = e := by simp [Program.elem, ht]
  rw [run_slice_h w t _ _ _ ht' .i64 _ (by omega) (by omega), he, hz]
  have := head_map a
  simp [Result.andThen, sliced, this]
theorem run_head_hm (ht : P.underlying t = some (.slice e)) (hz : ∀ w, (Go.sizeOf e).run P w = .ok 1 w) (w : World) (a : Option Addr) (n cap hi mx : Nat) (h2 : hi ≤ mx) (h3 : mx ≤ cap) :
    (Instr.slice t (.slice a n cap) none (some (.int .i64 (hi : Nat))) (some (.int .i64 (mx : Nat)))).run P w = .ok (.slice a hi mx) w := by
  have ht' : P.underlying t = some (.slice (P.elem t)) := by simp [Program.elem, ht]
  have he : P.elem t = e := by simp [Program.elem, ht]
  rw [run_slice_hm w t _ _ _ ht' .i64 .i64 _ _ (by omega) (by omega) (by omega), he, hz]
  have := head_map a
  simp [Result.andThen, sliced, this]
end
end Go.Proofs.YtbdgmpfdcmmfhaaDoor
