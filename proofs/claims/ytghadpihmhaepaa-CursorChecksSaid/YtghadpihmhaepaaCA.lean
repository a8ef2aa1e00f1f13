/- Contracts and mathematics that the proofs of this seat stand on: RowDef, RowIn, Bytes, Frm, App, Head, Vals, Elems, Nd, RgMath, RgBase, RgRead, RgAsk1, RgAsk2, RgCheck, RgOwn, RgConcat, RgConcat2, He, OwnVals, Sn, Ld, Ps, LdMath. -/
import Derived.Test.YtghadpihmhaepaaProg
import Derived.WalkKit
import Derived.Lib.Hide
import Derived.OwnWalk
import Derived.Laws.AppendOwn
import Derived.Laws.OwnMore
import Derived.OneCell
import Derived.Deep.Draws
import Derived.Maps.AppendAt
import Derived.Deep.RegionLaw
import Derived.Laws.Slices
import Derived.Deep.LoopGhost
import Derived.Deep.QuietTactic
import Derived.BigQuiet
import Derived.Outline
import Derived.IntWalk
import Derived.Laws.StructEq
import Derived.Deep.RegionHeld3
import Derived.Deep.DeepCutAuto
import Derived.Lib.QuietBelow
import Derived.WalkSpells
import Derived.Lib.AppendZerosOnto
import Derived.Lib.Walk
import Derived.Lib.SliceRun
/- A slice of bytes that reads as a list, and small words: plain, of this seat's program alone by its import. -/
namespace Go.Proofs.Ytghadpihmhaepaa
open Go.RowKit

theorem same_int {k : IntKind} {a b : Int} (h : a = b) : Value.int k a = Value.int k b := by rw [h]
theorem ret_same {k : IntKind} {a b : Int} (h : a = b) : Ending.returned (.int k a) = .returned (.int k b) := by rw [h]
/-- A slice value at address 'a' reads as the bytes 'l'. -/
def Bytes (w : World) (a : Option Addr) (l : List Nat) : Prop :=
  (∀ c ∈ l, c < 256) ∧ l.length ≤ 9223372036854775807 ∧
  (l = [] ∨ ∃ b off, a = some ⟨b, off, none⟩ ∧ ∀ i, i < l.length → w.cell? ⟨b, off + i, none⟩ = some (.int .u8 (l.getD i 0 : Nat)))

theorem getD_lt {l : List Nat} (h : ∀ c ∈ l, c < 256) (i : Nat) : l.getD i 0 < 256 := by
  by_cases hi : i < l.length
  · have e : l.getD i 0 = l[i] := by simp [hi]
    rw [e]; exact h _ (List.getElem_mem hi)
  · have e : l.getD i 0 = 0 := by simp [Nat.le_of_not_lt hi]
    omega
theorem take_snoc_getD {l : List Nat} {i : Nat} (h : i < l.length) : l.take (i + 1) = l.take i ++ [l.getD i 0] := by
  rw [List.take_succ_eq_append_getElem h]; simp [h]
end Go.Proofs.Ytghadpihmhaepaa
/- What a slice of bytes that came in reads as, in plain words of this seat: a list of natural numbers below 256. Plain lemmas, no condition. -/
namespace Go.Proofs.Ytghadpihmhaepaa
open Go.RowKit

/-- A slice of integers that came in: nil, or a row of cells. -/
def RowIn (k : IntKind) (w : World) (a : Option Addr) (len cap : Nat) (zs : List Int) : Prop :=
  (a = none ∧ len = 0 ∧ cap = 0 ∧ zs = []) ∨
  ∃ x, a = some x ∧ len ≤ cap ∧ cap ≤ maxLen ∧ zs.length = cap ∧ (∀ i, i < zs.length → w.cell? (x.add i) = some (.int k (zs.getD i 0))) ∧ ∀ n ∈ zs, (Lit.int k n).wf = true

theorem wf_bounds_u8 {n : Int} (h : (Lit.int .u8 n).wf = true) : 0 ≤ n ∧ n ≤ 255 := by
  simp [Lit.wf, IntKind.min, IntKind.max, IntKind.signed, IntKind.bits] at h
  omega
theorem bytes_of_row {w : World} {a : Option Addr} {len cap : Nat} {zs : List Int} (h : RowIn .u8 w a len cap zs) :
    ∃ l : List Nat, len = l.length ∧ Bytes w a l := by
  rcases h with ⟨rfl, rfl, rfl, rfl⟩ | ⟨x, rfl, hl, hm, hz, hcell, hwz⟩
  · exact ⟨[], rfl, by simp, by simp, .inl rfl⟩
  · unfold maxLen at hm
    have hlen : ((zs.take len).map Int.toNat).length = len := by simp; omega
    refine ⟨(zs.take len).map Int.toNat, hlen.symm, ?_, by omega, ?_⟩
    · intro c hc
      simp only [List.mem_map] at hc
      obtain ⟨n, hn, rfl⟩ := hc
      have := wf_bounds_u8 (hwz n (List.mem_of_mem_take hn))
      omega
    · by_cases h0 : len = 0
      · left; subst h0; simp
      · right
        obtain ⟨b, off, spot⟩ := x
        have hc := hcell 0 (by omega)
        have hspot : spot = none := by simpa [Addr.add] using World.cell?_spot hc
        subst hspot
        refine ⟨b, off, rfl, ?_⟩
        intro i hi
        have hi' : i < len := by omega
        have e := hcell i (by omega)
        have hw := wf_bounds_u8 (hwz (zs.getD i 0) (by have : i < zs.length := by omega
                                                       simp [this]))
        have : (((zs.take len).map Int.toNat).getD i 0 : Int) = zs.getD i 0 := by
          have h1 : i < zs.length := by omega
          simp [h1, hi'] at hw ⊢
          omega
        rw [this]
        have ha : (⟨b, off, none⟩ : Addr).add i = ⟨b, off + i, none⟩ := by
          unfold Addr.add
          by_cases hi0 : i = 0
          · subst hi0; simp
          · simp [hi0]
        rw [ha] at e; exact e
theorem row_nil {k : IntKind} {w : World} {a : Option Addr} {len cap : Nat} {zs : List Int} (h : RowIn k w a len cap zs) : a = none → cap = 0 := by
  intro ha
  rcases h with ⟨_, _, h, _⟩ | ⟨x, h, _⟩
  · exact h
  · rw [ha] at h; cases h
theorem row_cap {k : IntKind} {w : World} {a : Option Addr} {len cap : Nat} {zs : List Int} (h : RowIn k w a len cap zs) : len ≤ cap := by
  rcases h with ⟨_, h1, h2, _⟩ | ⟨x, _, h, _⟩ <;> omega
theorem Bytes.later {w w' : World} {a : Option Addr} {l : List Nat} (h : Bytes w a l) (hb : Below w.heap.size w w') : Bytes w' a l := by
  obtain ⟨h1, h2, h3⟩ := h
  refine ⟨h1, h2, ?_⟩
  rcases h3 with h | ⟨b, off, ha, hc⟩
  · exact .inl h
  · refine .inr ⟨b, off, ha, fun i hi => ?_⟩
    have e := hc i hi
    have hlt : b < w.heap.size := by
      rcases Nat.lt_or_ge b w.heap.size with h' | h'
      · exact h'
      · simp [World.cell?, Array.getElem?_eq_none h'] at e
    rw [← e]
    exact hb.cell (p := ⟨b, off + i, none⟩) hlt
end Go.Proofs.Ytghadpihmhaepaa
/- Slices of bytes that the call itself makes: appending whatever slice of bytes (nil or not), and what such a slice reads as. Plain laws over any program with the element type's row at hand. -/
namespace Go.Proofs.Ytghadpihmhaepaa
open Go.RowKit

def u8v (c : Nat) : Value := .int .u8 (c : Int)
theorem u8v_one (l : List Nat) : ∀ u ∈ l.map u8v, u.oneCell' = true := by
  intro u hu
  obtain ⟨c, _, rfl⟩ := List.mem_map.1 hu
  rfl
theorem addr_add (b off i : Nat) : (⟨b, off, none⟩ : Addr).add i = ⟨b, off + i, none⟩ := by
  unfold Addr.add
  by_cases hi0 : i = 0
  · subst hi0; simp
  · simp [hi0]
theorem getD_map_u8v {l : List Nat} {i : Nat} (h : i < l.length) : (l.map u8v)[i]? = some (u8v (l.getD i 0)) := by
  simp [h]
theorem Bytes.news {w : World} {b off : Nat} {l : List Nat} (h : ∀ i, i < l.length → w.cell? ⟨b, off + i, none⟩ = some (.int .u8 (l.getD i 0 : Nat))) :
    ∀ j u, (l.map u8v)[j]? = some u → w.cell? ((⟨b, off, none⟩ : Addr).add j) = some u := by
  intro j u hu
  have hj : j < l.length := by
    rcases Nat.lt_or_ge j l.length with h' | h'
    · exact h'
    · rw [List.getElem?_eq_none (by simpa using h')] at hu; cases hu
  rw [getD_map_u8v hj] at hu
  cases hu
  rw [addr_add]; exact h j hj

/-- What a slice of the call's own reads as. -/
theorem bytes_of_own {w : World} {base e : Nat} {a : Option Addr} {n cap : Nat} {l : List Nat} (h : w.ownsRow base e 1 (.slice a n cap) n (l.map u8v)) (h8 : ∀ c ∈ l, c < 256) :
    n = l.length ∧ Bytes w a l ∧ (a = none → cap = 0) := by
  have hn : n = l.length := by have := h.1; simpa using this.symm
  refine ⟨hn, ⟨h8, ?_, ?_⟩, ?_⟩
  · rcases h.2 with ⟨_, h0⟩ | ⟨g, cap', cur, _, _, _, hnc, hcm, _⟩
    · omega
    · unfold maxLen at hcm; omega
  · rcases h.2 with ⟨hv, h0⟩ | ⟨g, cap', cur, hv, hb, hg, hnc, hcm, hcs, ht⟩
    · left; exact List.eq_nil_of_length_eq_zero (by omega)
    · right
      simp only [Value.slice.injEq] at hv
      obtain ⟨rfl, _, rfl⟩ := hv
      refine ⟨g, 0, rfl, fun i hi => ?_⟩
      have := h.cellAt i (by omega)
      rw [Nat.zero_add, this, getD_map_u8v hi]; rfl
  · intro ha
    rcases h.2 with ⟨hv, h0⟩ | ⟨g, cap', cur, hv, _⟩
    · simp only [Value.slice.injEq] at hv; exact hv.2.2
    · subst ha; simp at hv

section
variable {P : Program} {w : World}

theorem run_append_bytes (base : Nat) (t ty e : TypeId) (i : TypeInfo) (ht : P.underlying t = some (.slice e)) (hi : P.info? e = some i) (hz : i.zero = some (.int .u8 0))
    (hsize : i.size = 1) (hby : i.bytes = 1) (v : Value) (n : Nat) (xs : List Value) (hown : w.ownsRow base e 1 v n xs)
    (ad : Option Addr) (m c : Nat) (l : List Nat) (hB : Bytes w ad l) (hm : m = l.length) (hnil : ad = none → c = 0)
    (hfit : n + m ≤ 140737488355328) (hbase : base ≤ w.heap.size) :
    ∃ a' cap' w', (Builtin.append_ #[t, t] ty #[v, .slice ad m c]).run P w = .ok (.slice a' (n + m) cap') w' ∧ w'.ownsRow base e 1 (.slice a' (n + m) cap') (n + m) (xs ++ l.map u8v) ∧ w.grownBy w' v.ownBlock := by
  obtain ⟨h8, hl, hc⟩ := hB
  have shape : ∀ (v' : Value) (w' : World) (k : Nat) (ys : List Value), w'.ownsRow base e 1 v' k ys → ∃ a' cap', v' = .slice a' k cap' := by
    intro v' w' k ys h
    rcases h.2 with ⟨hv, h0⟩ | ⟨g, cap', cur, hv, _⟩
    · exact ⟨none, 0, by rw [hv, h0]⟩
    · exact ⟨_, cap', hv⟩
  cases ad with
  | none =>
    have hc0 := hnil rfl
    subst hc0
    have hl0 : l = [] := by
      rcases hc with h | ⟨b, off, h, _⟩
      · exact h
      · cases h
    subst hl0
    have hm0 : m = 0 := by simpa using hm
    subst hm0
    obtain ⟨a', cap', hv⟩ := shape v w n xs hown
    subst hv
    refine ⟨a', cap', w, run_append_owned_none (P := P) (w := w) base t ty e i 1 ht hi _ n xs hown, by simpa using hown, World.grownBy.refl _ _⟩
  | some x =>
    have hnews : ∀ j u, (l.map u8v)[j]? = some u → w.cell? (x.add j) = some u := by
      rcases hc with h | ⟨b, off, h, hh⟩
      · subst h; intro j u hu; simp at hu
      · cases h; exact Bytes.news hh
    obtain ⟨v', w', hr, ho, hg, _⟩ := run_append_own (P := P) w base t ty e i (.int .u8 0) 1 1 ht hi hz hsize hby rfl (by decide) v n xs hown x m c (l.map u8v) (by simp [hm]) hnews (u8v_one l) (by unfold maxLen; omega) (by omega) hbase
    obtain ⟨a', cap', hv⟩ := shape v' w' (n + m) _ ho
    subst hv
    exact ⟨a', cap', w', hr, ho, hg⟩

theorem wpList_append_bytes {ops : Array Oper} {rest : List Oper} {o : Oper} {a : Act} {Q : Exit → Act → World → Prop} (hgd : o.guard = none) (s x : Operand) (t : TypeId)
    (ho : o.op = .call { callee := .builtin .append, args := #[s, x], argTypes := #[t, t] })
    (base : Nat) (e : TypeId) (i : TypeInfo) (ht : P.underlying t = some (.slice e)) (hi : P.info? e = some i) (hz : i.zero = some (.int .u8 0))
    (hsize : i.size = 1) (hby : i.bytes = 1) (v : Value) (n : Nat) (xs : List Value) (hs : a.eval s = v) (hown : w.ownsRow base e 1 v n xs)
    (ad : Option Addr) (m c : Nat) (l : List Nat) (hx : a.eval x = .slice ad m c) (hB : Bytes w ad l) (hm : m = l.length) (hnil : ad = none → c = 0)
    (hfit : n + m ≤ 140737488355328) (hbase : base ≤ w.heap.size)
    (h : ∀ a' cap' w', w'.ownsRow base e 1 (.slice a' (n + m) cap') (n + m) (xs ++ l.map u8v) → w.grownBy w' v.ownBlock → wpList P ops Q rest (a.put o.dst (.slice a' (n + m) cap')) w') : wpList P ops Q (o :: rest) a w := by
  refine wpList_plain hgd fun K hK => ?_
  obtain ⟨a', cap', w', hr, h2, h3⟩ := run_append_bytes (P := P) base t o.type e i ht hi hz hsize hby v n xs hown ad m c l hB hm hnil hfit hbase
  unfold Oper.wp execOp
  simp only [ho, resolve, invoke, builtin, Sem.run_bind, Sem.run_pure, Result.andThen_ok, List.map_toArray, List.map_cons, List.map_nil, hs, hx, hr]
  exact hK _ _ (h a' cap' w' h2 h3)
end
end Go.Proofs.Ytghadpihmhaepaa
/- Plain words on memory: which blocks a call may have turned (Frm), a block known whole (Whole), what stays as it was. They speak of no program. -/
namespace Go.Proofs.Ytghadpihmhaepaa
open Go.RowKit

/-- From w to w' only the blocks in S, and new ones, have turned. -/
structure Frm (S : List Nat) (w w' : World) : Prop where
  os : w'.os = w.os
  tape : w'.tape = w.tape
  output : w'.output = w.output
  size : w.heap.size ≤ w'.heap.size
  block : ∀ k, k < w.heap.size → k ∉ S → w'.heap[k]? = w.heap[k]?

theorem Frm.refl (S : List Nat) (w : World) : Frm S w w := ⟨rfl, rfl, rfl, Nat.le_refl _, fun _ _ _ => rfl⟩
theorem Frm.trans {S T U : List Nat} {a b c : World} (h : Frm S a b) (k : Frm T b c) (hS : ∀ x ∈ S, x ∈ U) (hT : ∀ x ∈ T, x ∈ U ∨ a.heap.size ≤ x) : Frm U a c :=
  ⟨k.os.trans h.os, k.tape.trans h.tape, k.output.trans h.output, Nat.le_trans h.size k.size, fun i hi hn =>
    (k.block i (Nat.lt_of_lt_of_le hi h.size) (fun hm => by rcases hT i hm with h1 | h1; exact hn h1; omega)).trans (h.block i hi (fun hm => hn (hS i hm)))⟩
theorem Frm.weak {S U : List Nat} {a b : World} (h : Frm S a b) (hS : ∀ x ∈ S, x ∈ U ∨ a.heap.size ≤ x) : Frm U a b :=
  ⟨h.os, h.tape, h.output, h.size, fun i hi hn => h.block i hi (fun hm => by rcases hS i hm with h1 | h1; exact hn h1; omega)⟩
theorem Frm.drew {S : List Nat} {a w : World} (h : Frm S a w) : Frm S a w.drew := ⟨h.os, h.tape, h.output, h.size, h.block⟩
theorem Frm.drewN {S : List Nat} {a w : World} (h : Frm S a w) (n : Nat) : Frm S a (w.drewN n) := ⟨h.os, h.tape, h.output, h.size, h.block⟩
theorem Frm.alloc {S : List Nat} {a w : World} (h : Frm S a w) (o : Obj) : Frm S a (w.alloc o) :=
  ⟨h.os, h.tape, h.output, Nat.le_trans h.size (by simp), fun i hi hn => (Below.heap_alloc w o i (Nat.lt_of_lt_of_le hi h.size)).trans (h.block i hi hn)⟩
theorem Frm.setCell {S : List Nat} {a w : World} (h : Frm S a w) {p : Addr} (hp : p.block ∈ S ∨ a.heap.size ≤ p.block) (u : Value) : Frm S a (w.setCell p u) :=
  ⟨h.os, h.tape, h.output, by simpa [World.setCell] using h.size, fun i hi hn => (Below.heap_setCell w p u i (by
    rintro rfl
    rcases hp with hp | hp
    · exact hn hp
    · omega)).trans (h.block i hi hn)⟩
theorem Frm.grown {S : List Nat} {a w w' : World} {row : Option Nat} (h : Frm S a w) (hg : w.grownBy w' row) (hr : ∀ k, row = some k → k ∈ S ∨ a.heap.size ≤ k) : Frm S a w' :=
  ⟨hg.os.trans h.os, hg.tape.trans h.tape, hg.output.trans h.output, Nat.le_trans h.size hg.size, fun i hi hn =>
    (hg.block i (Nat.lt_of_lt_of_le hi h.size) (fun e => by rcases hr i e.symm with h1 | h1; exact hn h1; omega)).trans (h.block i hi hn)⟩
theorem Frm.below {S : List Nat} {w w' : World} {B : Nat} (h : Frm S w w') (hS : ∀ x ∈ S, B ≤ x) (hB : B ≤ w.heap.size) : Below B w w' :=
  ⟨h.os, h.tape, h.output, h.size, fun k hk => h.block k (by omega) (fun hm => by have := hS k hm; omega)⟩
theorem Frm.ofBelow {w w' : World} (h : Below w.heap.size w w') : Frm [] w w' := ⟨h.os, h.tape, h.output, h.size, fun k hk _ => h.block k hk⟩
theorem Frm.cell {S : List Nat} {w w' : World} (h : Frm S w w') {p : Addr} (hp : p.block < w.heap.size) (hn : p.block ∉ S) : w'.cell? p = w.cell? p := World.cell?_of_block (w := w) (h.block p.block hp hn)
theorem Frm.frozen {S : List Nat} {w w' : World} (h : Frm S w w') {p : Addr} (hp : p.block < w.heap.size) (hn : p.block ∉ S) : w'.frozen? p = w.frozen? p := World.frozen?_of_block (w := w) (h.block p.block hp hn)

theorem Frm.own {S : List Nat} {w w' : World} (hf : Frm S w w') {base : Nat} {e : TypeId} {size : Nat} {v : Value} {n : Nat} {xs : List Value} (h : w.ownsRow base e size v n xs)
    (hn : ∀ g, v.ownBlock = some g → g ∉ S) : w'.ownsRow base e size v n xs := by
  obtain ⟨h1, h2⟩ := h
  refine ⟨h1, ?_⟩
  rcases h2 with h2 | ⟨g, cap, cur, rfl, hg, hh, r⟩
  · exact Or.inl h2
  · exact Or.inr ⟨g, cap, cur, rfl, hg, by rw [hf.block g (lt_of_block hh) (hn g rfl)]; exact hh, r⟩

theorem Frm.bytes {S : List Nat} {w w' : World} (hf : Frm S w w') {a : Option Addr} {l : List Nat} (h : Bytes w a l) (hn : ∀ x, a = some x → x.block ∉ S) : Bytes w' a l := by
  obtain ⟨h1, h2, h3⟩ := h
  refine ⟨h1, h2, ?_⟩
  rcases h3 with h | ⟨b, off, ha, hc⟩
  · exact .inl h
  · refine .inr ⟨b, off, ha, fun i hi => ?_⟩
    have e := hc i hi
    have hlt : b < w.heap.size := block_lt_of_cell (a := ⟨b, off + i, none⟩) e
    rw [← e]
    exact hf.cell (p := ⟨b, off + i, none⟩) hlt (hn ⟨b, off, none⟩ ha)

theorem bytes_lt {w : World} {a : Option Addr} {l : List Nat} (h : Bytes w a l) (hne : l ≠ []) : ∀ x, a = some x → x.block < w.heap.size := by
  intro x hx
  rcases h.2.2 with h0 | ⟨b, off, ha, hc⟩
  · exact absurd h0 hne
  · rw [ha] at hx
    cases hx
    exact block_lt_of_cell (a := ⟨b, off + 0, none⟩) (hc 0 (by cases l with | nil => exact absurd rfl hne | cons _ _ => simp))
theorem Frm.bytes' {S : List Nat} {w w' : World} (hf : Frm S w w') {a : Option Addr} {l : List Nat} (h : Bytes w a l) (hn : l ≠ [] → ∀ x, a = some x → x.block ∉ S) : Bytes w' a l := by
  by_cases hne : l = []
  · subst hne; exact ⟨by simp, by simp, .inl rfl⟩
  · exact hf.bytes h (hn hne)

/-- Block g is just these cells, none of them frozen. -/
def Whole (w : World) (g : Nat) (t : TypeId) (cs : Array Value) : Prop := w.heap[g]? = some (.cells cs t (0, 0))
section
variable {w w' : World} {g : Nat} {t : TypeId} {cs : Array Value}
theorem Whole.lt (h : Whole w g t cs) : g < w.heap.size := lt_of_block h
theorem Whole.cell (h : Whole w g t cs) (i : Nat) : w.cell? ⟨g, i, none⟩ = cs[i]? := cell_of_row w g i cs t (0, 0) h
theorem Whole.free (h : Whole w g t cs) (i : Nat) : w.frozen? ⟨g, i, none⟩ = false := frozen_of_row w g i cs t h
theorem Whole.made (w : World) (t : TypeId) (cs : Array Value) : Whole (w.alloc (.cells cs t)) w.heap.size t cs := heap_alloc_new w _
theorem Whole.drew (h : Whole w g t cs) : Whole w.drew g t cs := h
theorem Whole.alloc (h : Whole w g t cs) (o : Obj) : Whole (w.alloc o) g t cs := (Below.heap_alloc w o g h.lt).trans h
theorem Whole.put (h : Whole w g t cs) (i : Nat) (u : Value) : Whole (w.setCell ⟨g, i, none⟩ u) g t (cs.setIfInBounds i u) := heap_setCell_same w g i cs t u h
theorem Whole.other (h : Whole w g t cs) {p : Addr} (hp : g ≠ p.block) (u : Value) : Whole (w.setCell p u) g t cs := (heap_setCell_other w p g u hp).trans h
theorem Frm.whole {S : List Nat} (hf : Frm S w w') (h : Whole w g t cs) (hn : g ∉ S) : Whole w' g t cs := (hf.block g h.lt hn).trans h
theorem Whole.ne {g' : Nat} {t' : TypeId} {cs' : Array Value} (h : Whole w g t cs) (h' : Whole w g' t' cs') (hne : t ≠ t') : g ≠ g' := by
  rintro rfl
  unfold Whole at h h'
  rw [h] at h'
  injection h' with h'
  injection h' with _ ht
  exact hne ht
theorem own_ne {base : Nat} {e : TypeId} {size n : Nat} {v : Value} {xs : List Value} (h : w.ownsRow base e size v n xs) (hg : Whole w g t cs) (hne : e ≠ t) : v.ownBlock ≠ some g := by
  rcases h.2 with ⟨rfl, _⟩ | ⟨g', cap, cur, rfl, _, hh, _⟩
  · simp [Value.ownBlock]
  · intro he
    have : g' = g := by simpa [Value.ownBlock] using he
    subst this
    exact Whole.ne (t := e) hh hg hne rfl
end
end Go.Proofs.Ytghadpihmhaepaa
/- Appending whatever slice of bytes (nil or not) to a row of the call's own, with where the new row lies; in a plain region (wpList_app) and in one that draws its order (step_app). They speak of no program. -/
namespace Go.Proofs.Ytghadpihmhaepaa
open Go.RowKit

section
variable {P : Program} {w : World}
/-- What appending the bytes l to an owned value leaves. -/
structure App (w w' : World) (base : Nat) (e : TypeId) (v : Value) (n m : Nat) (xs : List Value) (l : List Nat) (a' : Option Addr) (cap' : Nat) : Prop where
  own : w'.ownsRow base e 1 (.slice a' (n + m) cap') (n + m) (xs ++ l.map u8v)
  grown : w.grownBy w' v.ownBlock
  place : (Value.slice a' (n + m) cap').ownBlock = v.ownBlock ∨ (Value.slice a' (n + m) cap').ownBlock = some w.heap.size

theorem run_app (base : Nat) (t ty e : TypeId) (i : TypeInfo) (ht : P.underlying t = some (.slice e)) (hi : P.info? e = some i) (hz : i.zero = some (.int .u8 0))
    (hsize : i.size = 1) (hby : i.bytes = 1) (v : Value) (n : Nat) (xs : List Value) (hown : w.ownsRow base e 1 v n xs)
    (ad : Option Addr) (m c : Nat) (l : List Nat) (hB : Bytes w ad l) (hm : m = l.length) (hnil : ad = none → c = 0)
    (hfit : n + m ≤ 140737488355328) (hbase : base ≤ w.heap.size) :
    ∃ a' cap' w', (Builtin.append_ #[t, t] ty #[v, .slice ad m c]).run P w = .ok (.slice a' (n + m) cap') w' ∧ App w w' base e v n m xs l a' cap' := by
  obtain ⟨h8, hl, hc⟩ := hB
  have shape : ∀ (v' : Value) (w' : World) (k : Nat) (ys : List Value), w'.ownsRow base e 1 v' k ys → ∃ a' cap', v' = .slice a' k cap' := by
    intro v' w' k ys h
    rcases h.2 with ⟨hv, h0⟩ | ⟨g, cap', cur, hv, _⟩
    · exact ⟨none, 0, by rw [hv, h0]⟩
    · exact ⟨_, cap', hv⟩
  cases ad with
  | none =>
    have hc0 := hnil rfl
    subst hc0
    have hl0 : l = [] := by
      rcases hc with h | ⟨b, off, h, _⟩
      · exact h
      · cases h
    subst hl0
    have hm0 : m = 0 := by simpa using hm
    subst hm0
    obtain ⟨a', cap', hv⟩ := shape v w n xs hown
    subst hv
    exact ⟨a', cap', w, run_append_owned_none (P := P) (w := w) base t ty e i 1 ht hi _ n xs hown, by simpa using hown, World.grownBy.refl _ _, .inl rfl⟩
  | some x =>
    have hnews : ∀ j u, (l.map u8v)[j]? = some u → w.cell? (x.add j) = some u := by
      rcases hc with h | ⟨b, off, h, hh⟩
      · subst h; intro j u hu; simp at hu
      · cases h; exact Bytes.news hh
    obtain ⟨v', w', hr, ho, hg, _, hpl⟩ := run_append_own_at (P := P) w base t ty e i (.int .u8 0) 1 1 ht hi hz hsize hby rfl (by decide) v n xs hown x m c (l.map u8v) (by simp [hm]) hnews (u8v_one l) (by unfold maxLen; omega) (by omega) hbase
    obtain ⟨a', cap', hv⟩ := shape v' w' (n + m) _ ho
    subst hv
    exact ⟨a', cap', w', hr, ho, hg, hpl⟩

theorem wpList_app {ops : Array Oper} {rest : List Oper} {o : Oper} {a : Act} {Q : Exit → Act → World → Prop} (hgd : o.guard = none) (s x : Operand) (t : TypeId)
    (ho : o.op = .call { callee := .builtin .append, args := #[s, x], argTypes := #[t, t] })
    (base : Nat) (e : TypeId) (i : TypeInfo) (ht : P.underlying t = some (.slice e)) (hi : P.info? e = some i) (hz : i.zero = some (.int .u8 0))
    (hsize : i.size = 1) (hby : i.bytes = 1) (v : Value) (n : Nat) (xs : List Value) (hs : a.eval s = v) (hown : w.ownsRow base e 1 v n xs)
    (ad : Option Addr) (m c : Nat) (l : List Nat) (hx : a.eval x = .slice ad m c) (hB : Bytes w ad l) (hm : m = l.length) (hnil : ad = none → c = 0)
    (hfit : n + m ≤ 140737488355328) (hbase : base ≤ w.heap.size)
    (h : ∀ a' cap' w', App w w' base e v n m xs l a' cap' → wpList P ops Q rest (a.put o.dst (.slice a' (n + m) cap')) w') : wpList P ops Q (o :: rest) a w := by
  refine wpList_plain hgd fun K hK => ?_
  obtain ⟨a', cap', w', hr, h2⟩ := run_app (P := P) base t o.type e i ht hi hz hsize hby v n xs hown ad m c l hB hm hnil hfit hbase
  unfold Oper.wp execOp
  simp only [ho, resolve, invoke, builtin, Sem.run_bind, Sem.run_pure, Result.andThen_ok, List.map_toArray, List.map_cons, List.map_nil, hs, hx, hr]
  exact hK _ _ (h a' cap' w' h2)

theorem step_app {ops : Array Oper} {o : Oper} {a : Act} {K : Act → World → Prop} {Q : Exit → Act → World → Prop} {E : Prop} (hgd : o.guard = none) (s x : Operand) (t : TypeId)
    (ho : o.op = .call { callee := .builtin .append, args := #[s, x], argTypes := #[t, t] })
    (base : Nat) (e : TypeId) (i : TypeInfo) (ht : P.underlying t = some (.slice e)) (hi : P.info? e = some i) (hz : i.zero = some (.int .u8 0))
    (hsize : i.size = 1) (hby : i.bytes = 1) (v : Value) (n : Nat) (xs : List Value) (hs : a.eval s = v) (hown : w.ownsRow base e 1 v n xs)
    (ad : Option Addr) (m c : Nat) (l : List Nat) (hx : a.eval x = .slice ad m c) (hB : Bytes w ad l) (hm : m = l.length) (hnil : ad = none → c = 0)
    (hfit : n + m ≤ 140737488355328) (hbase : base ≤ w.heap.size)
    (h : ∀ a' cap' w', App w w' base e v n m xs l a' cap' → K (a.put o.dst (.slice a' (n + m) cap')) w') :
    if Region.wanted o (yielded ops a.tmps) = true then Oper.wp P o a w K Q else E := by
  have hw : Region.wanted o (yielded ops a.tmps) = true := by simp [Region.wanted, hgd]
  rw [if_pos hw]
  obtain ⟨a', cap', w', hr, h2⟩ := run_app (P := P) base t o.type e i ht hi hz hsize hby v n xs hown ad m c l hB hm hnil hfit hbase
  unfold Oper.wp execOp
  simp only [ho, resolve, invoke, builtin, Sem.run_bind, Sem.run_pure, Result.andThen_ok, List.map_toArray, List.map_cons, List.map_nil, hs, hx, hr]
  exact h a' cap' w' h2
end
end Go.Proofs.Ytghadpihmhaepaa
/- A slice of bytes at the head of a block of the call's own, with spare room or without (Hd); what appending to it leaves, in a plain region and in one that draws its order. They speak of no program. -/
namespace Go.Proofs.Ytghadpihmhaepaa
open Go.RowKit

/-- The block that a slice lies in, if it has one. -/
def blk (a : Option Addr) : List Nat := (a.map (·.block)).toList
@[simp] theorem blk_none : blk none = [] := rfl
@[simp] theorem blk_some (x : Addr) : blk (some x) = [x.block] := rfl
theorem mem_blk {a : Option Addr} {g : Nat} : g ∈ blk a ↔ ∃ x, a = some x ∧ x.block = g := by
  cases a with
  | none => simp
  | some y => simp; exact ⟨fun h => h.symm, fun h => h.symm⟩

/-- The slice at a, of capacity cap, is the bytes l: nil, or the head of a block from B on. -/
def Hd (w : World) (B : Nat) (e : TypeId) (a : Option Addr) (cap : Nat) (l : List Nat) : Prop :=
  (a = none ∧ l = [] ∧ cap = 0) ∨
  ∃ g cur, a = some ⟨g, 0, none⟩ ∧ B ≤ g ∧ w.heap[g]? = some (.cells cur e (0, 0)) ∧ l.length ≤ cap ∧ cap ≤ maxLen ∧ cap ≤ cur.size ∧ cur.toList.take l.length = l.map u8v

section
variable {w w' : World} {B : Nat} {e : TypeId} {a : Option Addr} {cap : Nat} {l : List Nat}
theorem Hd.nil (w : World) (B : Nat) (e : TypeId) : Hd w B e none 0 [] := .inl ⟨rfl, rfl, rfl⟩
theorem Hd.cap_le (h : Hd w B e a cap l) : l.length ≤ cap ∧ cap ≤ maxLen := by
  rcases h with ⟨_, rfl, rfl⟩ | ⟨g, cur, _, _, _, h1, h2, _⟩
  · simp
  · exact ⟨h1, h2⟩
theorem Hd.blk_lt (h : Hd w B e a cap l) : ∀ g ∈ blk a, B ≤ g ∧ g < w.heap.size := by
  intro x hx
  rcases h with ⟨rfl, _⟩ | ⟨g, cur, rfl, hb, hg, _⟩
  · simp at hx
  · simp at hx; subst hx; exact ⟨hb, lt_of_block hg⟩
theorem Hd.cellAt {g : Nat} (h : Hd w B e (some ⟨g, 0, none⟩) cap l) {i : Nat} (hi : i < l.length) : w.cell? ⟨g, i, none⟩ = some (u8v (l.getD i 0)) := by
  rcases h with ⟨h, _⟩ | ⟨g', cur, h, hb, hg, h1, h2, h3, ht⟩
  · cases h
  · cases h
    rw [cell_of_row w g i cur e (0, 0) hg]
    have e1 : (cur.toList.take l.length)[i]? = some (u8v (l.getD i 0)) := by rw [ht, getD_map_u8v hi]
    rw [List.getElem?_take, if_pos hi] at e1
    simpa using e1
theorem Hd.frozenAt {g : Nat} (h : Hd w B e (some ⟨g, 0, none⟩) cap l) (i : Nat) : w.frozen? ⟨g, i, none⟩ = false := by
  rcases h with ⟨h, _⟩ | ⟨g', cur, h, hb, hg, h1, h2, h3, ht⟩
  · cases h
  · cases h
    exact frozen_of_row w g i cur e hg
theorem Hd.bytes (h : Hd w B e a cap l) (h8 : ∀ c ∈ l, c < 256) : Bytes w a l := by
  have hc := h.cap_le
  unfold maxLen at hc
  refine ⟨h8, by omega, ?_⟩
  rcases h with ⟨_, rfl, _⟩ | ⟨g, cur, rfl, hb, hg, h1, h2, h3, ht⟩
  · exact .inl rfl
  · right
    refine ⟨g, 0, rfl, fun i hi => ?_⟩
    rw [Nat.zero_add]
    exact Hd.cellAt (.inr ⟨g, cur, rfl, hb, hg, h1, h2, h3, ht⟩) hi
theorem Hd.keep {S : List Nat} (h : Hd w B e a cap l) (hf : Frm S w w') (hn : ∀ g ∈ blk a, g ∉ S) : Hd w' B e a cap l := by
  rcases h with h | ⟨g, cur, rfl, hb, hg, h1⟩
  · exact .inl h
  · exact .inr ⟨g, cur, rfl, hb, by rw [hf.block g (lt_of_block hg) (hn g (by simp))]; exact hg, h1⟩
/-- The head of a slice, without spare room. -/
theorem Hd.tight (h : Hd w B e a cap l) (n : Nat) (hn : n ≤ l.length) : Hd w B e a n (l.take n) := by
  rcases h with ⟨rfl, rfl, rfl⟩ | ⟨g, cur, rfl, hb, hg, h1, h2, h3, ht⟩
  · have : n = 0 := by simpa using hn
    subst this; exact .inl ⟨rfl, rfl, rfl⟩
  · refine .inr ⟨g, cur, rfl, hb, hg, by simp; omega, by omega, by omega, ?_⟩
    have e1 : (l.take n).length = n := by simp; omega
    rw [e1, List.map_take, ← ht, List.take_take]
    congr 1; omega
/-- A byte of it is stored anew. -/
theorem Hd.put {g : Nat} (h : Hd w B e (some ⟨g, 0, none⟩) cap l) (i c : Nat) : Hd (w.setCell ⟨g, i, none⟩ (u8v c)) B e (some ⟨g, 0, none⟩) cap (l.set i c) := by
  rcases h with ⟨h, _⟩ | ⟨g', cur, h, hb, hg, h1, h2, h3, ht⟩
  · cases h
  · cases h
    refine .inr ⟨g, cur.setIfInBounds i (u8v c), rfl, hb, heap_setCell_same w g i cur e (u8v c) hg, by simpa using h1, h2, by simpa using h3, ?_⟩
    rw [List.length_set, Array.toList_setIfInBounds, List.take_set, ht, List.map_set]
end

section
variable {P : Program} {w : World}
/-- What appending the bytes b to such a slice leaves. -/
structure HApp (w w' : World) (B : Nat) (e : TypeId) (a : Option Addr) (l b : List Nat) (a' : Option Addr) (cap' : Nat) : Prop where
  head : Hd w' B e a' cap' (l ++ b)
  frm : Frm (blk a) w w'
  place : ∀ g ∈ blk a', g ∈ blk a ∨ w.heap.size ≤ g

end

section
variable {P : Program} {t e : TypeId}
end
end Go.Proofs.Ytghadpihmhaepaa
/- Rows of one-cell values that the call made itself; appending values to them. Slices of slices of bytes: what they read as (LL), rows of the call's own (OwnL), and what stays of them. They speak of no program. -/
namespace Go.Proofs.Ytghadpihmhaepaa
open Go.RowKit

/-- These values lie there, cell by cell. -/
def ValsAt (w : World) (x : Option Addr) (us : List Value) : Prop := us = [] ∨ ∃ b off, x = some ⟨b, off, none⟩ ∧ ∀ i u, us[i]? = some u → w.cell? ⟨b, off + i, none⟩ = some u
theorem ValsAt.nil (w : World) (x : Option Addr) : ValsAt w x [] := .inl rfl
theorem ValsAt.one (w : World) (v : Value) (t : TypeId) : ValsAt (w.alloc (.cells #[v] t)) (some ⟨w.heap.size, 0, none⟩) [v] := by
  refine .inr ⟨_, _, rfl, fun i u hu => ?_⟩
  rw [(Whole.made w t #[v]).cell]
  rw [Nat.zero_add]
  simpa using hu
theorem ValsAt.keep {S : List Nat} {w w' : World} {x : Option Addr} {us : List Value} (h : ValsAt w x us) (hf : Frm S w w') (hn : us ≠ [] → ∀ y, x = some y → y.block ∉ S) : ValsAt w' x us := by
  rcases h with h | ⟨b, off, rfl, hc⟩
  · exact .inl h
  · by_cases h0 : us = []
    · exact .inl h0
    · refine .inr ⟨b, off, rfl, fun i u hu => ?_⟩
      have e := hc i u hu
      exact (hf.cell (p := ⟨b, off + i, none⟩) (block_lt_of_cell e) (hn h0 ⟨b, off, none⟩ rfl)).trans e

section
variable {P : Program} {w : World}
/-- What appending the values us to an owned value leaves. -/
structure AppV (w w' : World) (base : Nat) (e : TypeId) (v : Value) (n m : Nat) (xs us : List Value) (a' : Option Addr) (cap' : Nat) : Prop where
  own : w'.ownsRow base e 1 (.slice a' (n + m) cap') (n + m) (xs ++ us)
  grown : w.grownBy w' v.ownBlock
  place : (Value.slice a' (n + m) cap').ownBlock = v.ownBlock ∨ (Value.slice a' (n + m) cap').ownBlock = some w.heap.size

end

/-- Values that are slices of bytes, and what they read as; what isn't empty lies outside the blocks F. -/
structure Ents (w : World) (F : List Nat) (vs : List Value) (L : List (List Nat)) : Prop where
  len : vs.length = L.length
  ent : ∀ i, i < L.length → ∃ a cap, vs[i]? = some (.slice a (L.getD i []).length cap) ∧ Bytes w a (L.getD i []) ∧ (L.getD i [] ≠ [] → ∀ x, a = some x → x.block ∉ F) ∧ (a = none → cap = 0)
theorem Ents.nil (w : World) (F : List Nat) : Ents w F [] [] := ⟨rfl, fun i h => absurd h (by simp)⟩
theorem Ents.keep {w w' : World} {F F' S : List Nat} {vs : List Value} {L : List (List Nat)} (h : Ents w F vs L) (hf : Frm S w w') (hS : ∀ x ∈ S, x ∈ F ∨ w.heap.size ≤ x) (hF : ∀ x ∈ F', x ∈ F ∨ w.heap.size ≤ x) : Ents w' F' vs L := by
  refine ⟨h.len, fun i hi => ?_⟩
  obtain ⟨a, cap, h1, h2, h3, h4⟩ := h.ent i hi
  refine ⟨a, cap, h1, hf.bytes' h2 (fun hne x hx hm => ?_), fun hne x hx hm => ?_, h4⟩
  · rcases hS _ hm with h | h
    · exact h3 hne x hx h
    · have := bytes_lt h2 hne x hx; omega
  · rcases hF _ hm with h | h
    · exact h3 hne x hx h
    · have := bytes_lt h2 hne x hx; omega
theorem Ents.append {w : World} {F : List Nat} {vs us : List Value} {L M : List (List Nat)} (h : Ents w F vs L) (k : Ents w F us M) : Ents w F (vs ++ us) (L ++ M) := by
  refine ⟨by simp [h.len, k.len], fun i hi => ?_⟩
  by_cases hl : i < L.length
  · obtain ⟨a, cap, h1, h2, h3⟩ := h.ent i hl
    have e : (L ++ M).getD i [] = L.getD i [] := by simp [List.getD, List.getElem?_append, hl]
    rw [e]
    exact ⟨a, cap, by rw [List.getElem?_append_left (by rw [h.len]; exact hl)]; exact h1, h2, h3⟩
  · rw [List.length_append] at hi
    obtain ⟨a, cap, h1, h2, h3⟩ := k.ent (i - L.length) (by omega)
    have e : (L ++ M).getD i [] = M.getD (i - L.length) [] := by simp [List.getD, List.getElem?_append, hl]
    rw [e]
    exact ⟨a, cap, by rw [List.getElem?_append_right (by rw [h.len]; omega), h.len]; exact h1, h2, h3⟩
theorem Ents.take {w : World} {F : List Nat} {vs : List Value} {L : List (List Nat)} (h : Ents w F vs L) (k : Nat) : Ents w F (vs.take k) (L.take k) := by
  refine ⟨by simp [h.len], fun i hi => ?_⟩
  rw [List.length_take] at hi
  obtain ⟨a, cap, h1, h2, h3⟩ := h.ent i (by omega)
  have e : (L.take k).getD i [] = L.getD i [] := by simp [List.getD, show i < k by omega]
  rw [e]
  exact ⟨a, cap, by rw [List.getElem?_take, if_pos (by omega)]; exact h1, h2, h3⟩

/-- A slice of slices of bytes, as it reads; neither it nor what is in it (if it isn't empty) lies in the blocks F. -/
def LL (w : World) (F : List Nat) (a : Option Addr) (L : List (List Nat)) : Prop :=
  ∃ vs, ValsAt w a vs ∧ Ents w F vs L ∧ (L ≠ [] → ∀ x, a = some x → x.block ∉ F)
theorem LL.keep {w w' : World} {F F' S : List Nat} {a : Option Addr} {L : List (List Nat)} (h : LL w F a L) (hf : Frm S w w') (hS : ∀ x ∈ S, x ∈ F ∨ w.heap.size ≤ x) (hF : ∀ x ∈ F', x ∈ F ∨ w.heap.size ≤ x) : LL w' F' a L := by
  obtain ⟨vs, h1, h2, h3⟩ := h
  have hlt : L ≠ [] → ∀ x, a = some x → x.block < w.heap.size := by
    intro h0 x hx
    have h0' : vs ≠ [] := by intro e; have := h2.len; rw [e] at this; exact h0 (List.eq_nil_of_length_eq_zero this.symm)
    rcases h1 with h | ⟨b, off, rfl, hc⟩
    · exact absurd h h0'
    · cases hx
      cases vs with
      | nil => exact absurd rfl h0'
      | cons v vs => exact block_lt_of_cell (a := ⟨b, off + 0, none⟩) (hc 0 v rfl)
  have hvs : vs ≠ [] → L ≠ [] := by intro h0 e; have := h2.len; rw [e] at this; exact h0 (List.eq_nil_of_length_eq_zero this)
  refine ⟨vs, h1.keep hf (fun h0 x hx hm => ?_), h2.keep hf hS hF, fun h0 x hx hm => ?_⟩
  · rcases hS _ hm with h | h
    · exact h3 (hvs h0) x hx h
    · have := hlt (hvs h0) x hx; omega
  · rcases hF _ hm with h | h
    · exact h3 h0 x hx h
    · have := hlt h0 x hx; omega
theorem LL.take {w : World} {F : List Nat} {a : Option Addr} {L : List (List Nat)} (h : LL w F a L) (k : Nat) : LL w F a (L.take k) := by
  obtain ⟨vs, h1, h2, h3⟩ := h
  refine ⟨vs.take k, ?_, h2.take k, fun h0 => h3 (by rintro rfl; simp at h0)⟩
  rcases h1 with h | ⟨b, off, rfl, hc⟩
  · exact .inl (by rw [h]; simp)
  · refine .inr ⟨b, off, rfl, fun i u hu => hc i u ?_⟩
    rw [List.getElem?_take] at hu
    split at hu
    · exact hu
    · cases hu
/-- One of them. -/
theorem LL.at {w : World} {F : List Nat} {a : Option Addr} {L : List (List Nat)} (h : LL w F a L) {i : Nat} (hi : i < L.length) :
    ∃ b off, a = some ⟨b, off, none⟩ ∧ ∃ ai ci, w.cell? ⟨b, off + i, none⟩ = some (.slice ai (L.getD i []).length ci) ∧ Bytes w ai (L.getD i []) ∧ (L.getD i [] ≠ [] → ∀ x, ai = some x → x.block ∉ F) ∧ (ai = none → ci = 0) := by
  obtain ⟨vs, h1, h2, h3⟩ := h
  obtain ⟨ai, ci, e1, e2, e3⟩ := h2.ent i hi
  rcases h1 with h | ⟨b, off, rfl, hc⟩
  · rw [h] at e1; simp at e1
  · exact ⟨b, off, rfl, ai, ci, hc i _ e1, e2, e3⟩
theorem LL.byte {w : World} {F : List Nat} {a : Option Addr} {L : List (List Nat)} (h : LL w F a L) {l : List Nat} (hl : l ∈ L) : ∀ c ∈ l, c < 256 := by
  obtain ⟨i, hi, rfl⟩ := List.getElem_of_mem hl
  obtain ⟨_, _, _, _, _, _, hb, _⟩ := h.at hi
  simpa [List.getD, hi] using hb.1

/-- A row of the call's own of slices of bytes. -/
structure OwnL (w : World) (base : Nat) (e : TypeId) (F : List Nat) (a : Option Addr) (cap : Nat) (L : List (List Nat)) (vs : List Value) : Prop where
  own : w.ownsRow base e 1 (.slice a L.length cap) L.length vs
  ents : Ents w (blk a ++ F) vs L
  away : ∀ g ∈ blk a, g ∉ F
section
variable {w w' : World} {base : Nat} {e : TypeId} {F F' S : List Nat} {a : Option Addr} {cap : Nat} {L : List (List Nat)} {vs : List Value}
theorem OwnL.nil (w : World) (base : Nat) (e : TypeId) (F : List Nat) : OwnL w base e F none 0 [] [] := ⟨World.ownsRow_nil _ _ _ _, Ents.nil _ _, by simp⟩
theorem OwnL.blk_lt (h : OwnL w base e F a cap L vs) : ∀ g ∈ blk a, base ≤ g ∧ g < w.heap.size := by
  intro g hg
  obtain ⟨x, rfl, rfl⟩ := mem_blk.1 hg
  exact World.ownsRow.lt h.own x.block rfl
theorem OwnL.keep (h : OwnL w base e F a cap L vs) (hf : Frm S w w') (hS : ∀ x ∈ S, x ∈ F ∨ w.heap.size ≤ x) (hF : ∀ x ∈ F', x ∈ F ∨ w.heap.size ≤ x) : OwnL w' base e F' a cap L vs := by
  have hb := h.blk_lt
  refine ⟨hf.own h.own (fun g hg hm => ?_), h.ents.keep hf (fun x hx => ?_) (fun x hx => ?_), fun g hg hm => ?_⟩
  · have hg' : g ∈ blk a := by
      cases a with
      | none => simp [Value.ownBlock] at hg
      | some y => simpa [Value.ownBlock, eq_comm] using hg
    rcases hS g hm with h1 | h1
    · exact h.away g hg' h1
    · have := (hb g hg').2; omega
  · rcases hS x hx with h1 | h1
    · exact .inl (by simp [h1])
    · exact .inr h1
  · rcases List.mem_append.1 hx with h1 | h1
    · exact .inl (by simp [h1])
    · rcases hF x h1 with h2 | h2
      · exact .inl (by simp [h2])
      · exact .inr h2
  · rcases hF g hm with h1 | h1
    · exact h.away g hg h1
    · have := (hb g hg).2; omega
theorem OwnL.ll (h : OwnL w base e F a cap L vs) : LL w F a L := by
  refine ⟨vs, ?_, h.ents.keep (S := []) (Frm.refl _ _) (by simp) (fun x hx => .inl (by simp [hx])), fun _ x hx => h.away x.block (by rw [hx]; simp)⟩
  by_cases h0 : vs = []
  · exact .inl h0
  · rcases h.own.2 with ⟨_, hl⟩ | ⟨g, c, cur, hv, _⟩
    · exact absurd (List.eq_nil_of_length_eq_zero (by rw [h.ents.len, hl])) h0
    · simp only [Value.slice.injEq] at hv
      obtain ⟨rfl, _, rfl⟩ := hv
      refine .inr ⟨g, 0, rfl, fun i u hu => ?_⟩
      have hi : i < vs.length := by
        rcases Nat.lt_or_ge i vs.length with h' | h'
        · exact h'
        · rw [List.getElem?_eq_none h'] at hu; cases hu
      rw [Nat.zero_add, World.ownsRow.cellAt h.own i (by rw [Nat.mul_one, ← h.ents.len]; exact hi)]
      exact hu
theorem OwnL.caps (h : OwnL w base e F a cap L vs) : L.length ≤ cap ∧ cap ≤ maxLen ∧ (a = none → cap = 0) := by
  rcases h.own.2 with ⟨hv, hl⟩ | ⟨g, c, cur, hv, _, _, h1, h2, _⟩
  · simp only [Value.slice.injEq] at hv
    rw [hl, hv.2.2]; exact ⟨Nat.le_refl _, Nat.zero_le _, fun _ => rfl⟩
  · simp only [Value.slice.injEq] at hv
    obtain ⟨rfl, _, rfl⟩ := hv
    exact ⟨h1, h2, fun h => by cases h⟩
/-- What is appended lies neither in the row's block nor in F. -/
theorem OwnL.app {n m : Nat} {us : List Value} {M : List (List Nat)} {a' : Option Addr} {cap' : Nat} (h : OwnL w base e F a cap L vs) (hn : n = L.length) (k : Ents w (blk a ++ F) us M) (hm : m = M.length) (hF : ∀ x ∈ F, x < w.heap.size)
    (ha : AppV w w' base e (.slice a n cap) n m vs us a' cap') : OwnL w' base e F a' cap' (L ++ M) (vs ++ us) ∧ Frm (blk a) w w' ∧ (∀ g ∈ blk a', g ∈ blk a ∨ w.heap.size ≤ g) ∧ n + m = (L ++ M).length := by
  subst hn; subst hm
  have hown : ∀ g, (Value.slice a L.length cap).ownBlock = some g → g ∈ blk a := by
    intro g hg
    cases a with
    | none => simp [Value.ownBlock] at hg
    | some y => simpa [Value.ownBlock, eq_comm] using hg
  have hf : Frm (blk a) w w' := (Frm.refl _ _).grown ha.grown (fun g hg => .inl (hown g hg))
  have hp : ∀ g ∈ blk a', g ∈ blk a ∨ w.heap.size ≤ g := by
    intro g hg
    have hg' : (Value.slice a' (L.length + M.length) cap').ownBlock = some g := by
      obtain ⟨x, rfl, rfl⟩ := mem_blk.1 hg
      rfl
    rcases ha.place with h1 | h1
    · exact .inl (hown g (h1 ▸ hg'))
    · rw [hg'] at h1
      cases h1
      exact .inr (Nat.le_refl _)
  refine ⟨⟨?_, ?_, fun g hg hm => ?_⟩, hf, hp, by simp⟩
  · have := ha.own
    rwa [List.length_append]
  · refine (h.ents.append k).keep hf (fun x hx => .inl (by simp [hx])) (fun x hx => ?_)
    rcases List.mem_append.1 hx with h1 | h1
    · rcases hp x h1 with h2 | h2
      · exact .inl (by simp [h2])
      · exact .inr h2
    · exact .inl (by simp [h1])
  · rcases hp g hg with h1 | h1
    · exact h.away g h1 hm
    · have := hF g hm; omega
end
/-- A slice of slices of bytes that came in. -/
structure LIn (w : World) (a : Option Addr) (cap : Nat) (L : List (List Nat)) : Prop where
  ll : LL w [] a L
  nil : a = none → cap = 0
/-- A slice of bools that came in. -/
def BIn (w : World) (a : Option Addr) (bs : List Bool) : Prop := ∀ i, i < bs.length → ∃ b off, a = some ⟨b, off, none⟩ ∧ w.cell? ⟨b, off + i, none⟩ = some (.bool (bs.getD i false))
theorem BIn.keep {w w' : World} {a : Option Addr} {bs : List Bool} (h : BIn w a bs) (hf : Frm [] w w') : BIn w' a bs := fun i hi => by
  obtain ⟨b, off, h1, h2⟩ := h i hi
  exact ⟨b, off, h1, (hf.cell (p := ⟨b, off + i, none⟩) (block_lt_of_cell h2) (by simp)).trans h2⟩
end Go.Proofs.Ytghadpihmhaepaa
/- Rows of the call's own of elements of several cells each; appending cells to them, also to a slice without spare room. They speak of no program. -/
namespace Go.Proofs.Ytghadpihmhaepaa
open Go.RowKit

section
variable {P : Program} {w : World}
/-- What appending the cells us (m elements) to an owned value leaves. -/
structure AppS (w w' : World) (base : Nat) (e : TypeId) (sz : Nat) (v : Value) (n m : Nat) (xs us : List Value) (a' : Option Addr) (cap' : Nat) : Prop where
  own : w'.ownsRow base e sz (.slice a' (n + m) cap') (n + m) (xs ++ us)
  grown : w.grownBy w' v.ownBlock
  place : (Value.slice a' (n + m) cap').ownBlock = v.ownBlock ∨ (Value.slice a' (n + m) cap').ownBlock = some w.heap.size
theorem slice_shape {w : World} {base : Nat} {e : TypeId} {sz n : Nat} {v : Value} {xs : List Value} (h : w.ownsRow base e sz v n xs) : ∃ a cap, v = .slice a n cap := by
  rcases h.2 with ⟨hv, h0⟩ | ⟨g, cap', cur, hv, _⟩
  · exact ⟨none, 0, by rw [hv, h0]⟩
  · exact ⟨_, cap', hv⟩

theorem run_appS (base : Nat) (t ty e : TypeId) (i : TypeInfo) (z : Value) (sz by' : Nat) (ht : P.underlying t = some (.slice e)) (hi : P.info? e = some i) (hz : i.zero = some z) (hz1 : z.cells.size = sz) (hsz : 0 < sz)
    (hsize : i.size = sz) (hby : i.bytes = by') (hb : by' ≤ 100) (v : Value) (n : Nat) (xs : List Value) (hown : w.ownsRow base e sz v n xs)
    (ad : Option Addr) (m c : Nat) (us : List Value) (hB : ValsAt w ad us) (hm : us.length = m * sz) (hone : ∀ u ∈ us, u.oneCell' = true) (hnil : ad = none → c = 0)
    (hfit : n + m ≤ 1000000000) (hbase : base ≤ w.heap.size) :
    ∃ a' cap' w', (Builtin.append_ #[t, t] ty #[v, .slice ad m c]).run P w = .ok (.slice a' (n + m) cap') w' ∧ AppS w w' base e sz v n m xs us a' cap' := by
  cases ad with
  | none =>
    have hc0 := hnil rfl
    subst hc0
    have hl0 : us = [] := by
      rcases hB with h | ⟨_, _, h, _⟩
      · exact h
      · cases h
    subst hl0
    have hm0 : m = 0 := by
      rcases Nat.eq_zero_or_pos m with h | h
      · exact h
      · have := Nat.mul_pos h hsz; simp at hm; omega
    subst hm0
    obtain ⟨a', cap', hv⟩ := slice_shape hown
    subst hv
    exact ⟨a', cap', w, run_append_owned_none (P := P) (w := w) base t ty e i sz ht hi _ n xs hown, by simpa using hown, World.grownBy.refl _ _, .inl rfl⟩
  | some x =>
    have hnews : ∀ j u, us[j]? = some u → w.cell? (x.add j) = some u := by
      rcases hB with h | ⟨b, off, h, hh⟩
      · subst h; intro j u hu; simp at hu
      · cases h
        intro j u hu
        rw [addr_add]
        exact hh j u hu
    obtain ⟨v', w', hr, ho, hg, _, hpl⟩ := run_append_own_at (P := P) w base t ty e i z sz by' ht hi hz hsize hby hz1 hsz v n xs hown x m c us hm hnews hone (by unfold maxLen; omega)
      (by have := Nat.mul_le_mul hfit hb; omega) hbase
    obtain ⟨a', cap', hv⟩ := slice_shape ho
    subst hv
    exact ⟨a', cap', w', hr, ho, hg, hpl⟩

theorem wpList_appS {ops : Array Oper} {rest : List Oper} {o : Oper} {a : Act} {Q : Exit → Act → World → Prop} (hw : Region.wanted o (yielded ops a.tmps) = true) (s x : Operand) (t : TypeId)
    (ho : o.op = .call { callee := .builtin .append, args := #[s, x], argTypes := #[t, t] })
    (base : Nat) (e : TypeId) (i : TypeInfo) (z : Value) (sz by' : Nat) (ht : P.underlying t = some (.slice e)) (hi : P.info? e = some i) (hz : i.zero = some z) (hz1 : z.cells.size = sz) (hsz : 0 < sz)
    (hsize : i.size = sz) (hby : i.bytes = by') (hb : by' ≤ 100) (v : Value) (n : Nat) (xs : List Value) (hs : a.eval s = v) (hown : w.ownsRow base e sz v n xs)
    (ad : Option Addr) (m c : Nat) (us : List Value) (hx : a.eval x = .slice ad m c) (hB : ValsAt w ad us) (hm : us.length = m * sz) (hone : ∀ u ∈ us, u.oneCell' = true) (hnil : ad = none → c = 0)
    (hfit : n + m ≤ 1000000000) (hbase : base ≤ w.heap.size)
    (h : ∀ a' cap' w', AppS w w' base e sz v n m xs us a' cap' → wpList P ops Q rest (a.put o.dst (.slice a' (n + m) cap')) w') : wpList P ops Q (o :: rest) a w := by
  refine wpList_step fun K hK => ?_
  rw [if_pos hw]
  obtain ⟨a', cap', w', hr, h2⟩ := run_appS (P := P) base t o.type e i z sz by' ht hi hz hz1 hsz hsize hby hb v n xs hown ad m c us hB hm hone hnil hfit hbase
  unfold Oper.wp execOp
  simp only [ho, resolve, invoke, builtin, Sem.run_bind, Sem.run_pure, Result.andThen_ok, List.map_toArray, List.map_cons, List.map_nil, hs, hx, hr]
  exact hK _ _ (h a' cap' w' h2)

end
end Go.Proofs.Ytghadpihmhaepaa
/- Lists of nodes (a key, a value, a version, an owner): what they read as, rows of the call's own of them. -/
namespace Go.Proofs.Ytghadpihmhaepaa
open Go.RowKit

/-- A node. -/
structure Nd where
  k : ByteArray := ⟨#[]⟩
  v : List Nat := []
  ver : Nat := 0
  own : Nat := 0
/-- A node, and where its value lies. -/
structure Nx where
  t : Nd := {}
  a : Option Addr := none
  c : Nat := 0
instance : Inhabited Nx := ⟨{}⟩
def Nx.cells (x : Nx) : List Value := [.string x.t.k, .slice x.a x.t.v.length x.c, .int .u64 (x.t.ver : Nat), .int .u64 (x.t.own : Nat)]
def nc (X : List Nx) : List Value := X.flatMap Nx.cells
theorem nc_append (X Y : List Nx) : nc (X ++ Y) = nc X ++ nc Y := by simp [nc]
theorem nc_cons (x : Nx) (X : List Nx) : nc (x :: X) = x.cells ++ nc X := rfl
theorem nc_length (X : List Nx) : (nc X).length = X.length * 4 := by
  induction X with
  | nil => rfl
  | cons x X ih => rw [nc_cons, List.length_append, ih, List.length_cons]; simp [Nx.cells]; omega
theorem nc_at (X : List Nx) : ∀ i, i < X.length → (nc X)[i * 4]? = some (.string (X.getD i default).t.k) ∧ (nc X)[i * 4 + 1]? = some (.slice (X.getD i default).a (X.getD i default).t.v.length (X.getD i default).c) ∧
    (nc X)[i * 4 + 2]? = some (.int .u64 ((X.getD i default).t.ver : Nat)) ∧ (nc X)[i * 4 + 3]? = some (.int .u64 ((X.getD i default).t.own : Nat)) := by
  induction X with
  | nil => intro i hi; simp at hi
  | cons x X ih =>
    intro i hi
    have e : nc (x :: X) = .string x.t.k :: .slice x.a x.t.v.length x.c :: .int .u64 (x.t.ver : Nat) :: .int .u64 (x.t.own : Nat) :: nc X := rfl
    rw [e]
    rcases i with _ | i
    · exact ⟨rfl, rfl, rfl, rfl⟩
    · have := ih i (by simpa using hi)
      have h1 : (i + 1) * 4 = i * 4 + 1 + 1 + 1 + 1 := by omega
      rw [h1]
      simpa using this
theorem nc_take (X : List Nx) (n : Nat) : nc (X.take n) = (nc X).take (n * 4) := by
  induction X generalizing n with
  | nil => simp [nc]
  | cons x X ih =>
    rcases n with _ | n
    · simp [nc]
    · rw [List.take_succ_cons, nc_cons, nc_cons, ih, show (n + 1) * 4 = x.cells.length + n * 4 by simp [Nx.cells]; omega, List.take_length_add_append]
theorem nc_drop (X : List Nx) (n : Nat) : nc (X.drop n) = (nc X).drop (n * 4) := by
  induction X generalizing n with
  | nil => simp [nc]
  | cons x X ih =>
    rcases n with _ | n
    · simp [nc]
    · rw [List.drop_succ_cons, nc_cons, ih, show (n + 1) * 4 = x.cells.length + n * 4 by simp [Nx.cells]; omega, ← List.drop_drop, List.drop_left' rfl]

/-- What a node is known by: its value's bytes, outside the blocks F; numbers that fit. -/
structure NxOk (w : World) (F : List Nat) (x : Nx) : Prop where
  bytes : Bytes w x.a x.t.v
  away : x.t.v ≠ [] → ∀ q, x.a = some q → q.block ∉ F
  nil : x.a = none → x.c = 0
  ver : x.t.ver < 18446744073709551616
  own : x.t.own < 18446744073709551616
  key : x.t.k.size ≤ 9223372036854775807
theorem NxOk.keep {w w' : World} {F F' S : List Nat} {x : Nx} (h : NxOk w F x) (hf : Frm S w w') (hS : ∀ x ∈ S, x ∈ F ∨ w.heap.size ≤ x) (hF : ∀ x ∈ F', x ∈ F ∨ w.heap.size ≤ x) : NxOk w' F' x := by
  refine ⟨hf.bytes' h.bytes (fun hne q hq hm => ?_), fun hne q hq hm => ?_, h.nil, h.ver, h.own, h.key⟩
  · rcases hS _ hm with h1 | h1
    · exact h.away hne q hq h1
    · have := bytes_lt h.bytes hne q hq; omega
  · rcases hF _ hm with h1 | h1
    · exact h.away hne q hq h1
    · have := bytes_lt h.bytes hne q hq; omega
def NOk (w : World) (F : List Nat) (X : List Nx) : Prop := ∀ x ∈ X, NxOk w F x
theorem NOk.keep {w w' : World} {F F' S : List Nat} {X : List Nx} (h : NOk w F X) (hf : Frm S w w') (hS : ∀ x ∈ S, x ∈ F ∨ w.heap.size ≤ x) (hF : ∀ x ∈ F', x ∈ F ∨ w.heap.size ≤ x) : NOk w' F' X := fun x hx => (h x hx).keep hf hS hF
theorem NOk.append {w : World} {F : List Nat} {X Y : List Nx} (h : NOk w F X) (k : NOk w F Y) : NOk w F (X ++ Y) := fun x hx => (List.mem_append.1 hx).elim (h x) (k x)
theorem NOk.sub {w : World} {F : List Nat} {X Y : List Nx} (h : NOk w F X) (hs : ∀ x ∈ Y, x ∈ X) : NOk w F Y := fun x hx => h x (hs x hx)
theorem NOk.nil (w : World) (F : List Nat) : NOk w F [] := fun x hx => by simp at hx

/-- A slice of nodes, as it reads; neither it nor a value of it lies in the blocks F. -/
structure NL (w : World) (F : List Nat) (a : Option Addr) (X : List Nx) : Prop where
  vals : ValsAt w a (nc X)
  ok : NOk w F X
  away : X ≠ [] → ∀ q, a = some q → q.block ∉ F
theorem NL.nil (w : World) (F : List Nat) (a : Option Addr) : NL w F a [] := ⟨.inl rfl, NOk.nil _ _, fun h => absurd rfl h⟩
theorem nc_ne {X : List Nx} (h : nc X ≠ []) : X ≠ [] := by rintro rfl; exact h rfl
theorem nc_ne' {X : List Nx} (h : X ≠ []) : nc X ≠ [] := by
  intro e
  have := nc_length X
  rw [e] at this
  have := List.length_pos_iff.2 h
  simp at *; omega
theorem vals_lt {w : World} {a : Option Addr} {us : List Value} (h : ValsAt w a us) (hne : us ≠ []) : ∀ q, a = some q → q.block < w.heap.size := by
  intro q hq
  rcases h with h | ⟨b, off, rfl, hc⟩
  · exact absurd h hne
  · cases hq
    cases us with
    | nil => exact absurd rfl hne
    | cons v vs => exact block_lt_of_cell (a := ⟨b, off + 0, none⟩) (hc 0 v rfl)
theorem NL.keep {w w' : World} {F F' S : List Nat} {a : Option Addr} {X : List Nx} (h : NL w F a X) (hf : Frm S w w') (hS : ∀ x ∈ S, x ∈ F ∨ w.heap.size ≤ x) (hF : ∀ x ∈ F', x ∈ F ∨ w.heap.size ≤ x) : NL w' F' a X := by
  refine ⟨h.vals.keep hf (fun hne q hq hm => ?_), h.ok.keep hf hS hF, fun hne q hq hm => ?_⟩
  · rcases hS _ hm with h1 | h1
    · exact h.away (nc_ne hne) q hq h1
    · have := vals_lt h.vals hne q hq; omega
  · rcases hF _ hm with h1 | h1
    · exact h.away hne q hq h1
    · have := vals_lt h.vals (nc_ne' hne) q hq; omega
theorem NL.at {w : World} {F : List Nat} {a : Option Addr} {X : List Nx} (h : NL w F a X) {i : Nat} (hi : i < X.length) :
    ∃ b off, a = some ⟨b, off, none⟩ ∧ w.cell? ⟨b, off + i * 4, none⟩ = some (.string (X.getD i default).t.k) ∧ w.cell? ⟨b, off + i * 4 + 1, none⟩ = some (.slice (X.getD i default).a (X.getD i default).t.v.length (X.getD i default).c) ∧
      w.cell? ⟨b, off + i * 4 + 2, none⟩ = some (.int .u64 ((X.getD i default).t.ver : Nat)) ∧ w.cell? ⟨b, off + i * 4 + 3, none⟩ = some (.int .u64 ((X.getD i default).t.own : Nat)) ∧ NxOk w F (X.getD i default) := by
  obtain ⟨h0, h1, h2, h3⟩ := nc_at X i hi
  have hm : X.getD i default ∈ X := by simp [hi]
  rcases h.vals with h' | ⟨b, off, rfl, hc⟩
  · rw [h'] at h0; simp at h0
  · exact ⟨b, off, rfl, hc _ _ h0, by rw [Nat.add_assoc]; exact hc _ _ h1, by rw [Nat.add_assoc]; exact hc _ _ h2, by rw [Nat.add_assoc]; exact hc _ _ h3, h.ok _ hm⟩
theorem NL.take {w : World} {F : List Nat} {a : Option Addr} {X : List Nx} (h : NL w F a X) (n : Nat) : NL w F a (X.take n) := by
  refine ⟨?_, h.ok.sub (fun x hx => List.mem_of_mem_take hx), fun hne => h.away (by rintro rfl; simp at hne)⟩
  rw [nc_take]
  rcases h.vals with h' | ⟨b, off, rfl, hc⟩
  · exact .inl (by rw [h']; simp)
  · refine .inr ⟨b, off, rfl, fun i u hu => hc i u ?_⟩
    rw [List.getElem?_take] at hu
    split at hu
    · exact hu
    · cases hu
/-- The address of what is left of a slice of elements of four cells each. -/
def cut4 (a : Option Addr) (cap lo : Nat) : Option Addr := if cap = lo then a else a.map (·.add (lo * 4))
theorem NL.drop {w : World} {F : List Nat} {a : Option Addr} {X : List Nx} {cap : Nat} (h : NL w F a X) (hc : X.length ≤ cap) (lo : Nat) : NL w F (cut4 a cap lo) (X.drop lo) := by
  unfold cut4
  by_cases hlo : cap = lo
  · rw [if_pos hlo, List.drop_eq_nil_of_le (by omega)]; exact NL.nil _ _ _
  · rw [if_neg hlo]
    refine ⟨?_, h.ok.sub (fun x hx => List.mem_of_mem_drop hx), fun hne q hq hm => ?_⟩
    · rw [nc_drop]
      rcases h.vals with h' | ⟨b, off, rfl, hcc⟩
      · exact .inl (by rw [h']; simp)
      · refine .inr ⟨b, off + lo * 4, by simp [addr_add], fun i u hu => ?_⟩
        rw [List.getElem?_drop] at hu
        rw [Nat.add_assoc]
        exact hcc _ _ hu
    · cases a with
      | none => cases hq
      | some y =>
        simp at hq
        subst hq
        exact h.away (by rintro rfl; simp at hne) y rfl (by unfold Addr.add at hm; split at hm <;> exact hm)

/-- A row of the call's own of nodes. -/
structure NOwn (w : World) (base : Nat) (e : TypeId) (F : List Nat) (a : Option Addr) (cap : Nat) (X : List Nx) : Prop where
  own : w.ownsRow base e 4 (.slice a X.length cap) X.length (nc X)
  ok : NOk w (blk a ++ F) X
  away : ∀ g ∈ blk a, g ∉ F
section
variable {w w' : World} {base : Nat} {e : TypeId} {F F' S : List Nat} {a : Option Addr} {cap : Nat} {X : List Nx}
theorem NOwn.nil (w : World) (base : Nat) (e : TypeId) (F : List Nat) : NOwn w base e F none 0 [] := ⟨World.ownsRow_nil _ _ _ _, NOk.nil _ _, by simp⟩
theorem ownBlk {a : Option Addr} {n c g : Nat} : (Value.slice a n c).ownBlock = some g ↔ g ∈ blk a := by cases a <;> simp [Value.ownBlock, eq_comm]
theorem NOwn.blk_lt (h : NOwn w base e F a cap X) : ∀ g ∈ blk a, base ≤ g ∧ g < w.heap.size := fun g hg => World.ownsRow.lt h.own g (ownBlk.2 hg)
theorem NOwn.keep (h : NOwn w base e F a cap X) (hf : Frm S w w') (hS : ∀ x ∈ S, x ∈ F ∨ w.heap.size ≤ x) (hF : ∀ x ∈ F', x ∈ F ∨ w.heap.size ≤ x) : NOwn w' base e F' a cap X := by
  have hb := h.blk_lt
  refine ⟨hf.own h.own (fun g hg hm => ?_), h.ok.keep hf (fun x hx => ?_) (fun x hx => ?_), fun g hg hm => ?_⟩
  · rcases hS g hm with h1 | h1
    · exact h.away g (ownBlk.1 hg) h1
    · have := (hb g (ownBlk.1 hg)).2; omega
  · rcases hS x hx with h1 | h1
    · exact .inl (by simp [h1])
    · exact .inr h1
  · rcases List.mem_append.1 hx with h1 | h1
    · exact .inl (by simp [h1])
    · rcases hF x h1 with h2 | h2
      · exact .inl (by simp [h2])
      · exact .inr h2
  · rcases hF g hm with h1 | h1
    · exact h.away g hg h1
    · have := (hb g hg).2; omega
theorem NOwn.nl (h : NOwn w base e F a cap X) : NL w F a X := by
  refine ⟨?_, h.ok.keep (S := []) (Frm.refl _ _) (by simp) (fun x hx => .inl (by simp [hx])), fun _ q hq => h.away q.block (by rw [hq]; simp)⟩
  by_cases h0 : X = []
  · subst h0; exact .inl rfl
  · rcases h.own.2 with ⟨_, hl⟩ | ⟨g, c, cur, hv, _⟩
    · exact absurd (List.eq_nil_of_length_eq_zero hl) h0
    · simp only [Value.slice.injEq] at hv
      obtain ⟨rfl, _, rfl⟩ := hv
      refine .inr ⟨g, 0, rfl, fun i u hu => ?_⟩
      have hi : i < (nc X).length := by
        rcases Nat.lt_or_ge i (nc X).length with h' | h'
        · exact h'
        · rw [List.getElem?_eq_none h'] at hu; cases hu
      rw [nc_length] at hi
      rw [Nat.zero_add, World.ownsRow.cellAt h.own i hi]
      exact hu
theorem NOwn.caps (h : NOwn w base e F a cap X) : X.length ≤ cap ∧ cap ≤ maxLen ∧ (a = none → cap = 0) := by
  rcases h.own.2 with ⟨hv, hl⟩ | ⟨g, c, cur, hv, _, _, h1, h2, _⟩
  · simp only [Value.slice.injEq] at hv
    rw [hl, hv.2.2]; exact ⟨Nat.le_refl _, Nat.zero_le _, fun _ => rfl⟩
  · simp only [Value.slice.injEq] at hv
    obtain ⟨rfl, _, rfl⟩ := hv
    exact ⟨h1, h2, fun h => by cases h⟩
/-- What is appended lies neither in the row's block nor in F. -/
theorem NOwn.app {n m : Nat} {Y : List Nx} {a' : Option Addr} {cap' : Nat} (h : NOwn w base e F a cap X) (hn : n = X.length) (k : NOk w (blk a ++ F) Y) (hm : m = Y.length) (hF : ∀ x ∈ F, x < w.heap.size)
    (ha : AppS w w' base e 4 (.slice a n cap) n m (nc X) (nc Y) a' cap') : NOwn w' base e F a' cap' (X ++ Y) ∧ Frm (blk a) w w' ∧ (∀ g ∈ blk a', g ∈ blk a ∨ w.heap.size ≤ g) ∧ n + m = (X ++ Y).length := by
  subst hn; subst hm
  have hf : Frm (blk a) w w' := (Frm.refl _ _).grown ha.grown (fun g hg => .inl (ownBlk.1 hg))
  have hp : ∀ g ∈ blk a', g ∈ blk a ∨ w.heap.size ≤ g := by
    intro g hg
    have hg' : (Value.slice a' (X.length + Y.length) cap').ownBlock = some g := ownBlk.2 hg
    rcases ha.place with h1 | h1
    · exact .inl (ownBlk.1 (h1 ▸ hg'))
    · rw [hg'] at h1
      cases h1
      exact .inr (Nat.le_refl _)
  refine ⟨⟨?_, ?_, fun g hg hm => ?_⟩, hf, hp, by simp⟩
  · have := ha.own
    rwa [← nc_append, ← List.length_append] at this
  · refine (h.ok.append k).keep hf (fun x hx => .inl (by simp [hx])) (fun x hx => ?_)
    rcases List.mem_append.1 hx with h1 | h1
    · rcases hp x h1 with h2 | h2
      · exact .inl (by simp [h2])
      · exact .inr h2
    · exact .inl (by simp [h1])
  · rcases hp g hg with h1 | h1
    · exact h.away g h1 hm
    · have := hF g hm; omega
end
section
variable {P : Program} {t e : TypeId}
end
end Go.Proofs.Ytghadpihmhaepaa
/- Sets of numbers as ranges, as plain mathematics over lists of pairs: right ranges, what is in them, that right ranges with the same numbers are the same; what adding, removing, joining, counting comes tz. They speak of no program. -/
namespace Go.Proofs.Ytghadpihmhaepaa
abbrev Rg := Nat × Nat
/-- Is n in one of them? -/
def Mem (l : List Rg) (n : Nat) : Prop := ∃ p ∈ l, p.1 ≤ n ∧ n < p.2
/-- Right: each has a number; they rise, with something between them. -/
def Rt (l : List Rg) : Prop := (∀ p ∈ l, p.1 < p.2) ∧ l.Pairwise (fun p q => p.2 < q.1)

theorem Mem.nil (n : Nat) : ¬ Mem [] n := fun ⟨_, h, _⟩ => by simp at h
theorem mem_cons (p : Rg) (l : List Rg) (n : Nat) : Mem (p :: l) n ↔ (p.1 ≤ n ∧ n < p.2) ∨ Mem l n := by
  unfold Mem; simp
theorem mem_append (a b : List Rg) (n : Nat) : Mem (a ++ b) n ↔ Mem a n ∨ Mem b n := by
  unfold Mem
  constructor
  · rintro ⟨p, hp, h⟩
    rcases List.mem_append.1 hp with h1 | h1
    · exact .inl ⟨p, h1, h⟩
    · exact .inr ⟨p, h1, h⟩
  · rintro (⟨p, hp, h⟩ | ⟨p, hp, h⟩)
    · exact ⟨p, List.mem_append_left _ hp, h⟩
    · exact ⟨p, List.mem_append_right _ hp, h⟩
theorem Rt.nil : Rt [] := ⟨by simp, .nil⟩
theorem rt_cons (p : Rg) (l : List Rg) : Rt (p :: l) ↔ p.1 < p.2 ∧ (∀ q ∈ l, p.2 < q.1) ∧ Rt l := by
  unfold Rt
  rw [List.pairwise_cons]
  simp only [List.mem_cons, forall_eq_or_imp]
  constructor
  · rintro ⟨⟨h1, h2⟩, h3, h4⟩; exact ⟨h1, h3, h2, h4⟩
  · rintro ⟨h1, h3, h2, h4⟩; exact ⟨⟨h1, h2⟩, h3, h4⟩
theorem rt_append (a b : List Rg) : Rt (a ++ b) ↔ Rt a ∧ Rt b ∧ ∀ p ∈ a, ∀ q ∈ b, p.2 < q.1 := by
  unfold Rt
  rw [List.pairwise_append]
  simp only [List.mem_append]
  constructor
  · rintro ⟨h1, h2, h3, h4⟩; exact ⟨⟨fun p hp => h1 p (.inl hp), h2⟩, ⟨fun p hp => h1 p (.inr hp), h3⟩, h4⟩
  · rintro ⟨⟨h1, h2⟩, ⟨h3, h4⟩, h5⟩; exact ⟨fun p hp => hp.elim (h1 p) (h3 p), h2, h4, h5⟩
theorem mem_lo {p : Rg} {l : List Rg} (h : Rt (p :: l)) {n : Nat} (hn : Mem (p :: l) n) : p.1 ≤ n := by
  obtain ⟨h1, h2, h3⟩ := (rt_cons p l).1 h
  rcases (mem_cons p l n).1 hn with h4 | ⟨q, hq, h4⟩
  · exact h4.1
  · have := h2 q hq; omega
theorem not_mem_hi {p : Rg} {l : List Rg} (h : Rt (p :: l)) : ¬ Mem (p :: l) p.2 := by
  obtain ⟨h1, h2, h3⟩ := (rt_cons p l).1 h
  intro hn
  rcases (mem_cons p l _).1 hn with h4 | ⟨q, hq, h4⟩
  · omega
  · have := h2 q hq; omega
/-- Right ranges with the same numbers are the same. -/
theorem rt_uniq : ∀ {a b : List Rg}, Rt a → Rt b → (∀ n, Mem a n ↔ Mem b n) → a = b
  | [], [], _, _, _ => rfl
  | [], q :: b, _, hb, h => absurd ((h q.1).2 ((mem_cons q b _).2 (.inl ⟨Nat.le_refl _, ((rt_cons q b).1 hb).1⟩))) (Mem.nil _)
  | p :: a, [], ha, _, h => absurd ((h p.1).1 ((mem_cons p a _).2 (.inl ⟨Nat.le_refl _, ((rt_cons p a).1 ha).1⟩))) (Mem.nil _)
  | p :: a, q :: b, ha, hb, h => by
    obtain ⟨a1, a2, a3⟩ := (rt_cons p a).1 ha
    obtain ⟨b1, b2, b3⟩ := (rt_cons q b).1 hb
    have e1 : q.1 ≤ p.1 := mem_lo hb ((h p.1).1 ((mem_cons p a _).2 (.inl ⟨Nat.le_refl _, a1⟩)))
    have e2 : p.1 ≤ q.1 := mem_lo ha ((h q.1).2 ((mem_cons q b _).2 (.inl ⟨Nat.le_refl _, b1⟩)))
    have e3 : ¬ p.2 < q.2 := fun hlt => not_mem_hi ha ((h p.2).2 ((mem_cons q b _).2 (.inl ⟨by omega, hlt⟩)))
    have e4 : ¬ q.2 < p.2 := fun hlt => not_mem_hi hb ((h q.2).1 ((mem_cons p a _).2 (.inl ⟨by omega, hlt⟩)))
    have e5 : p = q := by
      obtain ⟨p1, p2⟩ := p; obtain ⟨q1, q2⟩ := q
      simp only at *
      rw [show p1 = q1 by omega, show p2 = q2 by omega]
    subst e5
    have e6 : a = b := rt_uniq a3 b3 (fun n => by
      constructor
      · rintro ⟨r, hr, h1⟩
        have := a2 r hr
        rcases (mem_cons p b n).1 ((h n).1 ((mem_cons p a n).2 (.inr ⟨r, hr, h1⟩))) with h2 | h2
        · omega
        · exact h2
      · rintro ⟨r, hr, h1⟩
        have := b2 r hr
        rcases (mem_cons p a n).1 ((h n).2 ((mem_cons p b n).2 (.inr ⟨r, hr, h1⟩))) with h2 | h2
        · omega
        · exact h2)
    rw [e6]

/-- Right ranges, place by place. -/
theorem rt_lt {l : List Rg} (h : Rt l) {i : Nat} (hi : i < l.length) : (l.getD i (0, 0)).1 < (l.getD i (0, 0)).2 := by
  have e : l.getD i (0, 0) = l[i] := by simp [hi]
  rw [e]; exact h.1 _ (List.getElem_mem hi)
theorem rt_gap {l : List Rg} (h : Rt l) {i j : Nat} (hij : i < j) (hj : j < l.length) : (l.getD i (0, 0)).2 < (l.getD j (0, 0)).1 := by
  have hi : i < l.length := by omega
  have e : l.getD i (0, 0) = l[i] := by simp [hi]
  have e' : l.getD j (0, 0) = l[j] := by simp [hj]
  rw [e, e']; exact List.pairwise_iff_getElem.1 h.2 i j hi hj hij
theorem rt_split {l : List Rg} (h : Rt l) (k : Nat) : Rt (l.take k) ∧ Rt (l.drop k) ∧ ∀ p ∈ l.take k, ∀ q ∈ l.drop k, p.2 < q.1 := by
  have := (rt_append (l.take k) (l.drop k)).1 (by rw [List.take_append_drop]; exact h)
  exact this
theorem mem_iff_getD (l : List Rg) (n : Nat) : Mem l n ↔ ∃ i, i < l.length ∧ (l.getD i (0, 0)).1 ≤ n ∧ n < (l.getD i (0, 0)).2 := by
  constructor
  · rintro ⟨p, hp, h⟩
    obtain ⟨i, hi, rfl⟩ := List.getElem_of_mem hp
    exact ⟨i, hi, by simpa [hi] using h⟩
  · rintro ⟨i, hi, h⟩
    have e : l.getD i (0, 0) = l[i] := by simp [hi]
    rw [e] at h
    exact ⟨_, List.getElem_mem hi, h⟩
theorem getD_take {l : List Rg} {i k : Nat} (h : i < k) : (l.take k).getD i (0, 0) = l.getD i (0, 0) := by
  simp [List.getD, h]
theorem getD_drop (l : List Rg) (i k : Nat) : (l.drop k).getD i (0, 0) = l.getD (k + i) (0, 0) := by
  simp [List.getD, List.getElem?_drop]
theorem mem_take_getD {l : List Rg} {k : Nat} {p : Rg} (h : p ∈ l.take k) : ∃ i, i < k ∧ i < l.length ∧ p = l.getD i (0, 0) := by
  obtain ⟨i, hi, rfl⟩ := List.getElem_of_mem h
  have hi' : i < k ∧ i < l.length := by rw [List.length_take] at hi; omega
  exact ⟨i, hi'.1, hi'.2, by simp [hi'.2]⟩
theorem mem_drop_getD {l : List Rg} {k : Nat} {p : Rg} (h : p ∈ l.drop k) : ∃ i, k ≤ i ∧ i < l.length ∧ p = l.getD i (0, 0) := by
  obtain ⟨i, hi, rfl⟩ := List.getElem_of_mem h
  have hi' : k + i < l.length := by rw [List.length_drop] at hi; omega
  exact ⟨k + i, by omega, hi', by simp [hi']⟩

/-- What stands in place of the ones from 'from' on and ahead of 'tz', of which each touches r: one range around them and r. -/
theorem add_spec {l : List Rg} (h : Rt l) {r : Rg} (hr : r.1 < r.2) {fr tz : Nat} (hft : fr ≤ tz) (hto : tz ≤ l.length)
    (h1 : ∀ i, i < fr → (l.getD i (0, 0)).2 < r.1) (h2 : ∀ i, fr ≤ i → i < l.length → r.1 ≤ (l.getD i (0, 0)).2)
    (h3 : ∀ i, i < tz → (l.getD i (0, 0)).1 ≤ r.2) (h4 : ∀ i, tz ≤ i → i < l.length → r.2 < (l.getD i (0, 0)).1)
    {s : Rg} (hs : s = if fr < tz then (min r.1 (l.getD fr (0, 0)).1, max r.2 (l.getD (tz - 1) (0, 0)).2) else r) :
    Rt (l.take fr ++ ([s] ++ l.drop tz)) ∧ ∀ n, Mem (l.take fr ++ ([s] ++ l.drop tz)) n ↔ Mem l n ∨ (r.1 ≤ n ∧ n < r.2) := by
  have hs1 : s.1 ≤ r.1 ∧ r.2 ≤ s.2 := by subst hs; split <;> simp <;> omega
  have hA : ∀ p ∈ l.take fr, p.2 < s.1 := by
    intro p hp
    obtain ⟨i, hi, hil, rfl⟩ := mem_take_getD hp
    have := h1 i hi
    subst hs
    split
    · have := rt_gap h (i := i) (j := fr) hi (by omega)
      simp only; omega
    · exact this
  have hC : ∀ q ∈ l.drop tz, s.2 < q.1 := by
    intro p hp
    obtain ⟨i, hi, hil, rfl⟩ := mem_drop_getD hp
    have := h4 i hi hil
    subst hs
    split
    · have := rt_gap h (i := tz - 1) (j := i) (by omega) hil
      simp only; omega
    · exact this
  have hss : s.1 < s.2 := by omega
  constructor
  · rw [rt_append, rt_append]
    refine ⟨(rt_split h fr).1, ⟨(rt_cons s []).2 ⟨hss, by simp, Rt.nil⟩, (rt_split h tz).2.1, ?_⟩, ?_⟩
    · intro p hp q hq
      simp only [List.mem_singleton] at hp
      subst hp; exact hC q hq
    · intro p hp q hq
      rcases List.mem_append.1 hq with hq | hq
      · simp only [List.mem_singleton] at hq
        subst hq; exact hA p hp
      · have := hA p hp; have := hC q hq; omega
  · intro n
    rw [mem_append, mem_append, mem_cons]
    constructor
    · rintro (⟨p, hp, hn⟩ | ((hn | hn) | ⟨p, hp, hn⟩))
      · exact .inl ⟨p, List.mem_of_mem_take hp, hn⟩
      · by_cases hin : r.1 ≤ n ∧ n < r.2
        · exact .inr hin
        · left
          subst hs
          split at hn
          · rename_i hlt
            simp only at hn
            rw [mem_iff_getD]
            by_cases hlo : n < r.1
            · exact ⟨fr, by omega, by omega, by have := h2 fr (Nat.le_refl _) (by omega); omega⟩
            · exact ⟨tz - 1, by omega, by have := h3 (tz - 1) (by omega); omega, by omega⟩
          · exact absurd hn hin
      · exact absurd hn (Mem.nil _)
      · exact .inl ⟨p, List.mem_of_mem_drop hp, hn⟩
    · rintro (hn | hn)
      · rw [mem_iff_getD] at hn
        obtain ⟨i, hil, hn⟩ := hn
        by_cases hif : i < fr
        · left; rw [mem_iff_getD]; exact ⟨i, by rw [List.length_take]; omega, by rw [getD_take hif]; exact hn⟩
        · by_cases hit : i < tz
          · right; left; left
            subst hs
            rw [if_pos (by omega)]
            simp only
            constructor
            · by_cases e : i = fr
              · subst e; omega
              · have := rt_gap h (i := fr) (j := i) (by omega) hil
                have := rt_lt h (i := fr) (by omega); omega
            · by_cases e : i = tz - 1
              · subst e; omega
              · have := rt_gap h (i := i) (j := tz - 1) (by omega) (by omega)
                have := rt_lt h (i := tz - 1) (by omega); omega
          · right; right
            rw [mem_iff_getD]
            exact ⟨i - tz, by rw [List.length_drop]; omega, by rw [getD_drop, show tz + (i - tz) = i by omega]; exact hn⟩
      · right; left; left; omega

/-- What the range from lo on and below hi has on either side of r. -/
def endsL (lo hi : Nat) (r : Rg) : List Rg := (if lo < r.1 then [(lo, r.1)] else []) ++ (if r.2 < hi then [(r.2, hi)] else [])
theorem remove_spec {l : List Rg} (h : Rt l) {r : Rg} (hr : r.1 < r.2) {fr tz : Nat} (hft : fr ≤ tz) (hto : tz ≤ l.length)
    (h1 : ∀ i, i < fr → (l.getD i (0, 0)).2 ≤ r.1) (h2 : ∀ i, fr ≤ i → i < l.length → r.1 < (l.getD i (0, 0)).2)
    (h3 : ∀ i, i < tz → (l.getD i (0, 0)).1 < r.2) (h4 : ∀ i, tz ≤ i → i < l.length → r.2 ≤ (l.getD i (0, 0)).1)
    {k : List Rg} (hk : k = if fr < tz then endsL (l.getD fr (0, 0)).1 (l.getD (tz - 1) (0, 0)).2 r else []) :
    Rt (l.take fr ++ (k ++ l.drop tz)) ∧ ∀ n, Mem (l.take fr ++ (k ++ l.drop tz)) n ↔ Mem l n ∧ ¬ (r.1 ≤ n ∧ n < r.2) := by
  have hk1 : ∀ p ∈ k, fr < tz ∧ ((p.1 = (l.getD fr (0, 0)).1 ∧ p.2 = r.1 ∧ (l.getD fr (0, 0)).1 < r.1) ∨ (p.1 = r.2 ∧ p.2 = (l.getD (tz - 1) (0, 0)).2 ∧ r.2 < (l.getD (tz - 1) (0, 0)).2)) := by
    intro p hp
    subst hk
    by_cases hlt : fr < tz
    · rw [if_pos hlt] at hp
      refine ⟨hlt, ?_⟩
      unfold endsL at hp
      rcases List.mem_append.1 hp with hp | hp
      · by_cases hc : (l.getD fr (0, 0)).1 < r.1
        · rw [if_pos hc] at hp
          simp only [List.mem_singleton] at hp
          subst hp; exact .inl ⟨rfl, rfl, hc⟩
        · rw [if_neg hc] at hp; simp at hp
      · by_cases hc : r.2 < (l.getD (tz - 1) (0, 0)).2
        · rw [if_pos hc] at hp
          simp only [List.mem_singleton] at hp
          subst hp; exact .inr ⟨rfl, rfl, hc⟩
        · rw [if_neg hc] at hp; simp at hp
    · rw [if_neg hlt] at hp; simp at hp
  have hkr : Rt k := by
    subst hk
    by_cases hlt : fr < tz
    · rw [if_pos hlt]
      unfold endsL
      rw [rt_append]
      refine ⟨?_, ?_, ?_⟩
      · split
        · exact (rt_cons _ _).2 ⟨by assumption, by simp, Rt.nil⟩
        · exact Rt.nil
      · split
        · exact (rt_cons _ _).2 ⟨by assumption, by simp, Rt.nil⟩
        · exact Rt.nil
      · intro p hp q hq
        split at hp
        · split at hq
          · simp only [List.mem_singleton] at hp hq
            subst hp hq; exact hr
          · simp at hq
        · simp at hp
    · rw [if_neg hlt]; exact Rt.nil
  have hA : ∀ p ∈ l.take fr, ∀ q ∈ k, p.2 < q.1 := by
    intro p hp q hq
    obtain ⟨i, hi, hil, rfl⟩ := mem_take_getD hp
    have := h1 i hi
    obtain ⟨hlt, hq⟩ := hk1 q hq
    have := rt_gap h (i := i) (j := fr) hi (by omega)
    omega
  have hC : ∀ p ∈ k, ∀ q ∈ l.drop tz, p.2 < q.1 := by
    intro p hp q hq
    obtain ⟨i, hi, hil, rfl⟩ := mem_drop_getD hq
    have := h4 i hi hil
    obtain ⟨hlt, hp⟩ := hk1 p hp
    have := rt_gap h (i := tz - 1) (j := i) (by omega) hil
    omega
  constructor
  · rw [rt_append, rt_append]
    refine ⟨(rt_split h fr).1, ⟨hkr, (rt_split h tz).2.1, hC⟩, ?_⟩
    intro p hp q hq
    rcases List.mem_append.1 hq with hq | hq
    · exact hA p hp q hq
    · obtain ⟨i, hi, hil, rfl⟩ := mem_take_getD hp
      obtain ⟨j, hj, hjl, rfl⟩ := mem_drop_getD hq
      exact rt_gap h (by omega) hjl
  · intro n
    rw [mem_append, mem_append]
    constructor
    · rintro (⟨p, hp, hn⟩ | ⟨p, hp, hn⟩ | ⟨p, hp, hn⟩)
      · obtain ⟨i, hi, hil, rfl⟩ := mem_take_getD hp
        have := h1 i hi
        exact ⟨⟨_, List.mem_of_mem_take hp, hn⟩, by omega⟩
      · obtain ⟨hlt, hp⟩ := hk1 p hp
        constructor
        · rw [mem_iff_getD]
          rcases hp with hp | hp
          · have := h2 fr (Nat.le_refl _) (by omega)
            exact ⟨fr, by omega, by omega, by omega⟩
          · have := h3 (tz - 1) (by omega)
            exact ⟨tz - 1, by omega, by omega, by omega⟩
        · omega
      · obtain ⟨i, hi, hil, rfl⟩ := mem_drop_getD hp
        have := h4 i hi hil
        exact ⟨⟨_, List.mem_of_mem_drop hp, hn⟩, by omega⟩
    · rintro ⟨hn, hno⟩
      rw [mem_iff_getD] at hn
      obtain ⟨i, hil, hn⟩ := hn
      by_cases hif : i < fr
      · left; rw [mem_iff_getD]; exact ⟨i, by rw [List.length_take]; omega, by rw [getD_take hif]; exact hn⟩
      · by_cases hit : i < tz
        · right; left
          subst hk
          rw [if_pos (by omega)]
          unfold endsL
          rw [mem_append]
          by_cases hlo : n < r.1
          · left
            have hl1 : (l.getD fr (0, 0)).1 ≤ n := by
              by_cases e : i = fr
              · subst e; omega
              · have := rt_gap h (i := fr) (j := i) (by omega) hil
                have := rt_lt h (i := fr) (by omega); omega
            rw [if_pos (by omega)]
            exact ⟨_, List.mem_singleton.2 rfl, hl1, hlo⟩
          · right
            have hl1 : n < (l.getD (tz - 1) (0, 0)).2 := by
              by_cases e : i = tz - 1
              · subst e; omega
              · have := rt_gap h (i := i) (j := tz - 1) (by omega) (by omega)
                have := rt_lt h (i := tz - 1) (by omega); omega
            rw [if_pos (by omega)]
            exact ⟨_, List.mem_singleton.2 rfl, by simp only; omega, hl1⟩
        · right; right
          rw [mem_iff_getD]
          exact ⟨i - tz, by rw [List.length_drop]; omega, by rw [getD_drop, show tz + (i - tz) = i by omega]; exact hn⟩

/-- How many numbers. -/
def cnt : List Rg → Nat
  | [] => 0
  | p :: l => (p.2 - p.1) + cnt l
instance (l : List Rg) (n : Nat) : Decidable (Mem l n) := inferInstanceAs (Decidable (∃ p ∈ l, p.1 ≤ n ∧ n < p.2))
/-- The numbers below N that are in. -/
def below (l : List Rg) : Nat → Nat
  | 0 => 0
  | N + 1 => below l N + if Mem l N then 1 else 0
end Go.Proofs.Ytghadpihmhaepaa
/- What a slice of ranges reads as; sort.Search over a predicate of the call's own; the predicates of package ranges. -/
namespace Go.Proofs.Ytghadpihmhaepaa
open Go.RowKit

/-- A slice at a reads as the ranges l. -/
def Rr (w : World) (a : Option Addr) (l : List Rg) : Prop :=
  (∀ p ∈ l, p.1 < 18446744073709551616 ∧ p.2 < 18446744073709551616) ∧
  (0 < l.length → ∃ b off, a = some ⟨b, off, none⟩ ∧ ∀ i, i < l.length →
    w.cell? ⟨b, off + i * 2, none⟩ = some (.int .u64 ((l.getD i (0, 0)).1 : Nat)) ∧ w.cell? ⟨b, off + i * 2 + 1, none⟩ = some (.int .u64 ((l.getD i (0, 0)).2 : Nat)))
theorem Rr.nil (w : World) (a : Option Addr) : Rr w a [] := ⟨by simp, fun h => absurd h (by simp)⟩
theorem getD_bd {l : List Rg} (h : ∀ p ∈ l, p.1 < 18446744073709551616 ∧ p.2 < 18446744073709551616) (i : Nat) : (l.getD i (0, 0)).1 < 18446744073709551616 ∧ (l.getD i (0, 0)).2 < 18446744073709551616 := by
  by_cases hi : i < l.length
  · have e : l.getD i (0, 0) = l[i] := by simp [hi]
    rw [e]; exact h _ (List.getElem_mem hi)
  · have e : l.getD i (0, 0) = (0, 0) := by simp [Nat.le_of_not_lt hi]
    rw [e]; simp
theorem Rr.keep {w w' : World} {a : Option Addr} {l : List Rg} {S : List Nat} (h : Rr w a l) (hf : Frm S w w') (hn : 0 < l.length → ∀ x, a = some x → x.block ∉ S) : Rr w' a l := by
  refine ⟨h.1, fun h0 => ?_⟩
  obtain ⟨b, off, rfl, hc⟩ := h.2 h0
  have hb := hn h0 ⟨b, off, none⟩ rfl
  refine ⟨b, off, rfl, fun i hi => ?_⟩
  obtain ⟨c0, c1⟩ := hc i hi
  exact ⟨(hf.cell (p := ⟨b, off + i * 2, none⟩) (block_lt_of_cell c0) hb).trans c0, (hf.cell (p := ⟨b, off + i * 2 + 1, none⟩) (block_lt_of_cell c1) hb).trans c1⟩
theorem Rr.keep0 {w w' : World} {a : Option Addr} {l : List Rg} (h : Rr w a l) (hf : Frm [] w w') : Rr w' a l := h.keep hf (by simp)
theorem Rr.lt {w : World} {a : Option Addr} {l : List Rg} (h : Rr w a l) (h0 : 0 < l.length) : ∀ x, a = some x → x.block < w.heap.size := by
  intro x hx
  obtain ⟨b, off, rfl, hc⟩ := h.2 h0
  cases hx
  exact block_lt_of_cell (a := ⟨b, off + 0 * 2, none⟩) (hc 0 h0).1

/-- What Search hands back. -/
def SearchPost (w : World) (n : Nat) (p : Nat → Bool) (e : Ending) (w' : World) : Prop :=
  ∃ r : Nat, e = .returned (.int .i64 r) ∧ r ≤ n ∧ (∀ t, t < r → p t = false) ∧ (∀ t, r ≤ t → t < n → p t = true) ∧ Frm [] w w'
def SRel (w : World) (n : Nat) (p : Nat → Bool) (kx : Nat) (s5 s6 : Value) (wr : World) : Prop :=
  ∃ lo hi : Nat, s5 = .int .i64 lo ∧ s6 = .int .i64 hi ∧ lo ≤ hi ∧ hi ≤ n ∧ hi - lo ≤ kx ∧ Frm [] w wr ∧ (∀ t, t < lo → p t = false) ∧ (∀ t, hi ≤ t → t < n → p t = true)

set_option maxHeartbeats 2000000 in
theorem search_any (g : Nat) (cb : Array Value) (n : Nat) (p : Nat → Bool) (w : World) (eg : ∀ args w, (callFunc g args).run Try.prog w = .ok (.enter g args) w) (hsz : n < 4611686018427387904)
    (hf : ∀ (wr : World) (i : Nat), Frm [] w wr → i < n → Calls Try.prog g (#[.int .i64 i] ++ cb) wr fun e w' => e = .returned (.bool (p i)) ∧ Frm [] wr w')
    (hmono : ∀ a b, a ≤ b → b < n → p a = true → p b = true) :
    Calls Try.prog 95 #[.int .i64 n, .func (.func g) #[] cb] w (SearchPost w n p) := by
  have HF := Lib.hid hf; clear hf
  have M := Lib.hid hmono; clear hmono
  go_enter Try.func95, Try.ntmps95
  go_wp2
  go_loopg [5, 6] n (fun kx s5 s6 wr => SRel w n p kx s5 s6 wr)
  case atStart => exact ⟨0, n, rfl, rfl, Nat.zero_le _, Nat.le_refl _, by omega, Frm.refl _ _, fun t ht => absurd ht (Nat.not_lt_zero _), fun t h1 h2 => by omega⟩
  case round =>
    obtain ⟨lo, hi, rfl, rfl, hlh, hin, hg, hw, hA, hB⟩ := hrel
    have HW := Lib.hid hw; clear hw
    have HA := Lib.hid hA; clear hA
    have HB := Lib.hid hB; clear hB
    by_cases hlt : lo < hi
    · have hc := HF.out wr ((lo + hi) / 2) HW.out (by omega)
      rw [show (((lo + hi) / 2 : Nat) : Int) = ((lo : Int) + (hi : Int)) / 2 by omega] at hc
      cases hp : p ((lo + hi) / 2) <;> rw [hp] at hc
      · have HP := Lib.hid hp
        clear hp
        go_wp2_with fail
        refine hc.mono ?_
        rintro e w' ⟨rfl, hw'⟩
        have HW' := Lib.hid hw'; clear hw'
        go_wp2
        go_roundg (hi - ((lo + hi) / 2 + 1))
        case measure => omega
        case rel =>
          exact ⟨(lo + hi) / 2 + 1, hi, by rw [show ((lo : Int) + (hi : Int)) / 2 + 1 = (((lo + hi) / 2 + 1 : Nat) : Int) by omega], rfl, by omega, hin, Nat.le_refl _, HW.out.trans HW'.out (by simp) (by simp), fun t ht => (by
            cases h : p t with
            | false => rfl
            | true => have := M.out t ((lo + hi) / 2) (by omega) (by omega) h; rw [HP.out] at this; cases this), HB.out⟩
      · have HP := Lib.hid hp
        clear hp
        go_wp2_with fail
        refine hc.mono ?_
        rintro e w' ⟨rfl, hw'⟩
        have HW' := Lib.hid hw'; clear hw'
        go_wp2
        go_roundg ((lo + hi) / 2 - lo)
        case measure => omega
        case rel =>
          exact ⟨lo, (lo + hi) / 2, rfl, by rw [show ((lo : Int) + (hi : Int)) / 2 = (((lo + hi) / 2 : Nat) : Int) by omega], by omega, by omega, Nat.le_refl _, HW.out.trans HW'.out (by simp) (by simp), HA.out, fun t ht htn => M.out ((lo + hi) / 2) t ht htn HP.out⟩
    · obtain rfl : hi = lo := by omega
      go_wp2
      go_ret
      exact ⟨_, rfl, hin, HA.out, HB.out, HW.out⟩
end Go.Proofs.Ytghadpihmhaepaa
/- Contracts of the predicates of package ranges, of endsBehind and of what only reads ranges. -/
namespace Go.Proofs.Ytghadpihmhaepaa
open Go.RowKit

theorem ret_dec {p q : Prop} [Decidable p] [Decidable q] (h : p ↔ q) : Ending.returned (.bool (decide p)) = .returned (.bool (decide q)) := by rw [decide_eq_decide.2 h]

section
variable {w : World} {a : Option Addr} {l : List Rg} (h : Rr w a l) {b2 b3 i n cap : Nat} {r : Rg} (hi : i < l.length) (hn : n = l.length)
  (c2 : w.cell? ⟨b2, 0, none⟩ = some (.slice a n cap)) (c3 : w.cell? ⟨b3, 0, none⟩ = some (.int .u64 (r.1 : Nat))) (c4 : w.cell? ⟨b3, 1, none⟩ = some (.int .u64 (r.2 : Nat)))
include h hi hn c2 c3 c4
theorem add1_any : Calls Try.prog 96 (#[.int .i64 i] ++ #[.pointer (some ⟨b2, 0, none⟩), .pointer (some ⟨b3, 0, none⟩)]) w fun e w' => e = .returned (.bool (decide (r.1 ≤ (l.getD i (0, 0)).2))) ∧ Frm [] w w' := by
  obtain ⟨b, off, rfl, hc⟩ := h.2 (by omega)
  obtain ⟨d0, d1⟩ := hc i hi
  obtain ⟨x, hx⟩ : ∃ x, x = (l.getD i (0, 0)).2 := ⟨_, rfl⟩
  rw [← hx] at d1 ⊢
  obtain ⟨r1, r2⟩ := r
  simp only at c3 c4 ⊢
  have hlt : (i : Int) < (n : Int) := by omega
  clear hx h hc d0 c4 hn hi
  show Calls Try.prog 96 #[.int .i64 i, .pointer (some ⟨b2, 0, none⟩), .pointer (some ⟨b3, 0, none⟩)] w _
  go_enter Try.func96, Try.ntmps96
  go_wp2
  go_quiet (fail)
  go_wp2
  go_ret
  exact ⟨ret_dec (by omega), (Frm.refl _ _).drewN _⟩
theorem add2_any : Calls Try.prog 97 (#[.int .i64 i] ++ #[.pointer (some ⟨b2, 0, none⟩), .pointer (some ⟨b3, 0, none⟩)]) w fun e w' => e = .returned (.bool (decide (r.2 < (l.getD i (0, 0)).1))) ∧ Frm [] w w' := by
  obtain ⟨b, off, rfl, hc⟩ := h.2 (by omega)
  obtain ⟨d0, d1⟩ := hc i hi
  obtain ⟨x, hx⟩ : ∃ x, x = (l.getD i (0, 0)).1 := ⟨_, rfl⟩
  rw [← hx] at d0 ⊢
  obtain ⟨r1, r2⟩ := r
  simp only at c3 c4 ⊢
  have hlt : (i : Int) < (n : Int) := by omega
  clear hx h hc d1 c3 hn hi
  show Calls Try.prog 97 #[.int .i64 i, .pointer (some ⟨b2, 0, none⟩), .pointer (some ⟨b3, 0, none⟩)] w _
  go_enter Try.func97, Try.ntmps97
  go_wp2
  go_quiet (fail)
  go_wp2
  go_ret
  exact ⟨ret_dec (by omega), (Frm.refl _ _).drewN _⟩
theorem rem1_any : Calls Try.prog 101 (#[.int .i64 i] ++ #[.pointer (some ⟨b2, 0, none⟩), .pointer (some ⟨b3, 0, none⟩)]) w fun e w' => e = .returned (.bool (decide (r.2 ≤ (l.getD i (0, 0)).1))) ∧ Frm [] w w' := by
  obtain ⟨b, off, rfl, hc⟩ := h.2 (by omega)
  obtain ⟨d0, d1⟩ := hc i hi
  obtain ⟨x, hx⟩ : ∃ x, x = (l.getD i (0, 0)).1 := ⟨_, rfl⟩
  rw [← hx] at d0 ⊢
  obtain ⟨r1, r2⟩ := r
  simp only at c3 c4 ⊢
  have hlt : (i : Int) < (n : Int) := by omega
  clear hx h hc d1 c3 hn hi
  show Calls Try.prog 101 #[.int .i64 i, .pointer (some ⟨b2, 0, none⟩), .pointer (some ⟨b3, 0, none⟩)] w _
  go_enter Try.func101, Try.ntmps101
  go_wp2
  go_quiet (fail)
  go_wp2
  go_ret
  exact ⟨ret_dec (by omega), (Frm.refl _ _).drewN _⟩
end
theorem beh1_any {w : World} {a : Option Addr} {l : List Rg} (h : Rr w a l) {b2 b3 i n cap x : Nat} (hi : i < l.length) (hn : n = l.length)
    (c2 : w.cell? ⟨b2, 0, none⟩ = some (.slice a n cap)) (c3 : w.cell? ⟨b3, 0, none⟩ = some (.int .u64 (x : Nat))) :
    Calls Try.prog 100 (#[.int .i64 i] ++ #[.pointer (some ⟨b2, 0, none⟩), .pointer (some ⟨b3, 0, none⟩)]) w fun e w' => e = .returned (.bool (decide (x < (l.getD i (0, 0)).2))) ∧ Frm [] w w' := by
  obtain ⟨b, off, rfl, hc⟩ := h.2 (by omega)
  obtain ⟨d0, d1⟩ := hc i hi
  obtain ⟨y, hy⟩ : ∃ x, x = (l.getD i (0, 0)).2 := ⟨_, rfl⟩
  rw [← hy] at d1 ⊢
  have hlt : (i : Int) < (n : Int) := by omega
  clear hy h hc d0 hn hi
  show Calls Try.prog 100 #[.int .i64 i, .pointer (some ⟨b2, 0, none⟩), .pointer (some ⟨b3, 0, none⟩)] w _
  go_enter Try.func100, Try.ntmps100
  go_wp2
  go_quiet (fail)
  go_wp2
  go_ret
  exact ⟨ret_dec (by omega), (Frm.refl _ _).drewN _⟩

theorem enters_add1 (args : Array Value) (w : World) : (callFunc 96 args).run Try.prog w = .ok (.enter 96 args) w := by kernel_rfl
theorem enters_add2 (args : Array Value) (w : World) : (callFunc 97 args).run Try.prog w = .ok (.enter 97 args) w := by kernel_rfl
theorem enters_rem1 (args : Array Value) (w : World) : (callFunc 101 args).run Try.prog w = .ok (.enter 101 args) w := by kernel_rfl
theorem enters_beh1 (args : Array Value) (w : World) : (callFunc 100 args).run Try.prog w = .ok (.enter 100 args) w := by kernel_rfl

theorem rt_le {l : List Rg} (h : Rt l) {i j : Nat} (hij : i ≤ j) (hj : j < l.length) : (l.getD i (0, 0)).1 ≤ (l.getD j (0, 0)).1 ∧ (l.getD i (0, 0)).2 ≤ (l.getD j (0, 0)).2 := by
  rcases Nat.lt_or_eq_of_le hij with h1 | rfl
  · have := rt_gap h h1 hj
    have := rt_lt h (i := i) (by omega)
    have := rt_lt h hj
    omega
  · exact ⟨Nat.le_refl _, Nat.le_refl _⟩

/-- The first one that ends behind x. -/
def Behind (w : World) (l : List Rg) (x : Nat) (e : Ending) (w' : World) : Prop :=
  ∃ r : Nat, e = .returned (.int .i64 r) ∧ r ≤ l.length ∧ (∀ t, t < r → (l.getD t (0, 0)).2 ≤ x) ∧ (∀ t, r ≤ t → t < l.length → x < (l.getD t (0, 0)).2) ∧ Frm [] w w'

set_option maxHeartbeats 1000000 in
theorem behind_any {w : World} {a : Option Addr} {l : List Rg} (h : Rr w a l) (hr : Rt l) {n cap x : Nat} (hn : n = l.length) (hsz : n < 4611686018427387904) :
    Calls Try.prog 73 #[.slice a n cap, .int .u64 x] w (Behind w l x) := by
  have hmf : ∀ (fn : Fn) (first cap : Array Value) (w : World), (Instr.makeFunc fn first cap).run Try.prog w = .ok (.func fn first cap) w := fun _ _ _ _ => rfl
  obtain ⟨W0, hW0⟩ : ∃ W0, W0 = (w.alloc (.cells #[.slice a n cap] 53)).alloc (.cells #[.int .u64 x] 23) := ⟨_, rfl⟩
  have h2 : Whole W0 w.heap.size 53 #[.slice a n cap] := by rw [hW0]; exact (Whole.made w _ _).alloc _
  have h3 : Whole W0 (w.heap.size + 1) 23 #[.int .u64 x] := by
    rw [hW0]
    have := Whole.made (w.alloc (.cells #[.slice a n cap] 53)) 23 #[.int .u64 x]
    simpa using this
  have hF : Frm [] w W0 := by rw [hW0]; exact ((Frm.refl _ _).alloc _).alloc _
  have hrr := h.keep0 hF
  have S := Lib.hid (search_any 100 #[.pointer (some ⟨w.heap.size, 0, none⟩), .pointer (some ⟨w.heap.size + 1, 0, none⟩)] n (fun i => decide (x < (l.getD i (0, 0)).2)) W0 enters_beh1 hsz
    (fun wr i hf hi => beh1_any (hrr.keep0 hf) (by omega) hn ((hf.whole h2 (by simp)).cell 0) ((hf.whole h3 (by simp)).cell 0))
    (fun i j hij hj hd => by
      have h1 := rt_le hr hij (by omega)
      have h2 : x < (l.getD i (0, 0)).2 := of_decide_eq_true hd
      exact decide_eq_true (show x < (l.getD j (0, 0)).2 by omega)))
  have HF := Lib.hid hF; clear hF
  have HN := Lib.hid hn; clear hn
  have HW0 := Lib.hid hW0; clear hW0
  clear h h2 h3 hrr hr
  go_enter Try.func73, Try.ntmps73
  go_wp2_with fail
  rw [← HW0.out]
  refine S.out.mono ?_
  rintro e w' ⟨r, rfl, h1, h2, h3, hf⟩
  have FIN : Hid (Behind w l x (.returned (.int .i64 r)) w') := ⟨r, rfl, by have := HN.out; omega, fun t ht => (by have h6 : ¬ x < (l.getD t (0, 0)).2 := of_decide_eq_false (h2 t ht); omega), fun t h4 h5 => of_decide_eq_true (h3 t h4 (by have := HN.out; omega)), HF.out.trans hf (by simp) (by simp)⟩
  clear h1 h2 h3 hf
  go_wp2
  go_ret
  exact FIN.out
end Go.Proofs.Ytghadpihmhaepaa
/- Contracts of what asks ranges: empty, Has, In, the two Counts. -/
namespace Go.Proofs.Ytghadpihmhaepaa
open Go.RowKit

/-- A call that answers whether P, and turns nothing of old. -/
def BoolOf (P : Prop) (w : World) (e : Ending) (w' : World) : Prop := ∃ b : Bool, e = .returned (.bool b) ∧ (b = true ↔ P) ∧ Frm [] w w'
theorem BoolOf.yes {P : Prop} {w w' : World} {e : Ending} (h : BoolOf P w e w') (hp : P) : e = .returned (.bool true) ∧ Frm [] w w' := by
  obtain ⟨b, rfl, hb, hf⟩ := h
  exact ⟨by rw [hb.2 hp], hf⟩
theorem BoolOf.no {P : Prop} {w w' : World} {e : Ending} (h : BoolOf P w e w') (hp : ¬ P) : e = .returned (.bool false) ∧ Frm [] w w' := by
  obtain ⟨b, rfl, hb, hf⟩ := h
  exact ⟨by cases b with | false => rfl | true => exact absurd (hb.1 rfl) hp, hf⟩
theorem boolOf_t {P : Prop} {w w' : World} (hp : P) (hf : Frm [] w w') : BoolOf P w (.returned (.bool true)) w' := ⟨true, rfl, by simp [hp], hf⟩
theorem boolOf_f {P : Prop} {w w' : World} (hp : ¬ P) (hf : Frm [] w w') : BoolOf P w (.returned (.bool false)) w' := ⟨false, rfl, by simp [hp], hf⟩
theorem boolOf_d {P Q : Prop} [Decidable Q] {w w' : World} (hp : Q ↔ P) (hf : Frm [] w w') : BoolOf P w (.returned (.bool (decide Q))) w' := ⟨_, rfl, by rw [decide_eq_true_iff]; exact hp, hf⟩

theorem empty_any (lo hi : Nat) (w : World) : Calls Try.prog 79 #[.agg #[.int .u64 lo, .int .u64 hi]] w (BoolOf (hi ≤ lo) w) := by
  have HF : Hid (Frm [] w (w.alloc (.cells #[.int .u64 lo, .int .u64 hi] 71))) := (Frm.refl _ _).alloc _
  go_enter Try.func79, Try.ntmps79
  go_wp2
  go_ret
  exact boolOf_d (by omega) HF.out

theorem mem_behind {l : List Rg} (h : Rt l) {r x : Nat} (h1 : ∀ t, t < r → (l.getD t (0, 0)).2 ≤ x) (h2 : ∀ t, r ≤ t → t < l.length → x < (l.getD t (0, 0)).2) :
    Mem l x ↔ r < l.length ∧ (l.getD r (0, 0)).1 ≤ x := by
  rw [mem_iff_getD]
  constructor
  · rintro ⟨i, hi, h3, h4⟩
    have h5 : r ≤ i := by
      rcases Nat.lt_or_ge i r with h6 | h6
      · have := h1 i h6; omega
      · exact h6
    have := rt_le h h5 hi
    exact ⟨by omega, by omega⟩
  · rintro ⟨h3, h4⟩
    exact ⟨r, h3, h4, h2 r (Nat.le_refl _) h3⟩

theorem has_any {w : World} {a : Option Addr} {l : List Rg} (h : Rr w a l) (hr : Rt l) {n cap x : Nat} (hn : n = l.length) (hsz : n < 4611686018427387904) :
    Calls Try.prog 45 #[.slice a n cap, .int .u64 x] w (BoolOf (Mem l x) w) := by
  have B := Lib.hid (behind_any (cap := cap) (x := x) h hr hn hsz)
  have HN := Lib.hid hn; clear hn
  have H := Lib.hid h; clear h
  have HR := Lib.hid hr; clear hr
  go_enter Try.func45, Try.ntmps45
  go_wp2_with fail
  refine B.out.mono ?_
  rintro e w' ⟨r, rfl, h0, h1, h2, hf⟩
  have M := Lib.hid (mem_behind HR.out h1 h2)
  have HF := Lib.hid hf; clear h1 h2 hf
  by_cases hlt : r < l.length
  · obtain ⟨b, off, rfl, hc⟩ := (H.out.keep0 HF.out).2 (by omega)
    obtain ⟨d0, d1⟩ := hc r hlt
    clear hc d1
    obtain ⟨y, hy⟩ : ∃ y, y = (l.getD r (0, 0)).1 := ⟨_, rfl⟩
    rw [← hy] at d0
    have HY := Lib.hid hy; clear hy
    have hlt' : (r : Int) < (n : Int) := by have := HN.out; omega
    go_wp2
    go_ret
    exact boolOf_d (by rw [M.out, ← HY.out]; omega) HF.out
  · have hlt' : ¬ (r : Int) < (n : Int) := by have := HN.out; omega
    go_wp2
    go_ret
    exact boolOf_f (by rw [M.out]; omega) HF.out

/-- In none of the first i. -/
theorem in_any {w : World} {a : Option Addr} {l : List Rg} (h : Rr w a l) {n cap x : Nat} (hn : n = l.length) (hsz : n < 4611686018427387904) :
    Calls Try.prog 47 #[.slice a n cap, .int .u64 x] w fun e w' => BoolOf (Mem l x) w e w' ∧ w = w' := by
  have HN := Lib.hid hn; clear hn
  have H := Lib.hid h; clear h
  go_enter Try.func47, Try.ntmps47
  go_wp2
  go_loop [5] (fun i => ∃ k : Nat, k ≤ n ∧ i = .int .i64 k ∧ Hid (∀ t, t < k → ¬ ((l.getD t (0, 0)).1 ≤ x ∧ x < (l.getD t (0, 0)).2))) (fun i => n - (intOf i).toNat)
  case atStart => exact ⟨0, Nat.zero_le _, rfl, fun t ht => absurd ht (Nat.not_lt_zero _)⟩
  case round =>
    obtain ⟨k, hk, rfl, HI⟩ := hrel
    by_cases hlt : k < n
    · obtain ⟨b, off, rfl, hc⟩ := H.out.2 (by have := HN.out; omega)
      obtain ⟨d0, d1⟩ := hc k (by have := HN.out; omega)
      clear hc
      have M : Hid (∃ x0 y0, x0 = (l.getD k (0, 0)).1 ∧ y0 = (l.getD k (0, 0)).2) := ⟨_, _, rfl, rfl⟩
      obtain ⟨x0, hx0⟩ : ∃ y, y = (l.getD k (0, 0)).1 := ⟨_, rfl⟩
      obtain ⟨y0, hy0⟩ : ∃ y, y = (l.getD k (0, 0)).2 := ⟨_, rfl⟩
      rw [← hx0] at d0
      rw [← hy0] at d1
      have HX := Lib.hid hx0; clear hx0
      have HY := Lib.hid hy0; clear hy0
      have hlt' : (k : Int) < (n : Int) := by omega
      by_cases hin : x0 ≤ x ∧ x < y0
      · have e1 : (x0 : Int) ≤ (x : Int) := by omega
        have e2 : (x : Int) < (y0 : Int) := by omega
        go_wp2
        go_ret
        exact ⟨boolOf_t ((mem_iff_getD l x).2 ⟨k, by have := HN.out; omega, by rw [← HX.out]; omega, by rw [← HY.out]; omega⟩) (Frm.refl _ _), rfl⟩
      · have HI2 : Hid (∀ t, t < k + 1 → ¬ ((l.getD t (0, 0)).1 ≤ x ∧ x < (l.getD t (0, 0)).2)) := by
          intro t ht
          rcases Nat.lt_or_eq_of_le (Nat.le_of_lt_succ ht) with h1 | rfl
          · exact HI.out t h1
          · rw [← HX.out, ← HY.out]; exact hin
        by_cases e1 : (x0 : Int) ≤ (x : Int)
        · have e2 : ¬ (x : Int) < (y0 : Int) := by omega
          clear hin
          go_wp2
          go_round
          case rel => exact ⟨k + 1, by omega, by go_num, HI2⟩
          case measure => simp [intOf]; omega
        · clear hin
          go_wp2
          go_round
          case rel => exact ⟨k + 1, by omega, by go_num, HI2⟩
          case measure => simp [intOf]; omega
    · obtain rfl : k = n := by omega
      go_wp2
      go_ret
      refine ⟨boolOf_f (fun hm => ?_) (Frm.refl _ _), rfl⟩
      obtain ⟨i, hi, hm⟩ := (mem_iff_getD l x).1 hm
      exact HI.out i (by have := HN.out; omega) hm

theorem int_eq {k : IntKind} {a b : Int} (h : a = b) : Value.int k a = Value.int k b := by rw [h]

end Go.Proofs.Ytghadpihmhaepaa
/- Contracts of Gap, of the document's Gap, and of Same. -/
namespace Go.Proofs.Ytghadpihmhaepaa
open Go.RowKit

/-- g is the least number from x on that isn't in. -/
def GapOf (l : List Rg) (x g : Nat) : Prop := x ≤ g ∧ ¬ Mem l g ∧ ∀ m, x ≤ m → m < g → Mem l m
theorem GapOf.uniq {l : List Rg} {x g g' : Nat} (h : GapOf l x g) (h' : GapOf l x g') : g = g' := by
  obtain ⟨a1, a2, a3⟩ := h
  obtain ⟨b1, b2, b3⟩ := h'
  rcases Nat.lt_trichotomy g g' with c | c | c
  · exact absurd (b3 g a1 c) a2
  · exact c
  · exact absurd (a3 g' b1 c) b2
theorem gapOf_self {l : List Rg} {x : Nat} (h : ¬ Mem l x) : GapOf l x x := ⟨Nat.le_refl _, h, fun m h1 h2 => by omega⟩
theorem gapOf_hi {l : List Rg} (h : Rt l) {i x : Nat} (hi : i < l.length) (h1 : (l.getD i (0, 0)).1 ≤ x) (h2 : x < (l.getD i (0, 0)).2) : GapOf l x (l.getD i (0, 0)).2 := by
  refine ⟨by omega, ?_, fun m hm1 hm2 => (mem_iff_getD l m).2 ⟨i, hi, by omega, hm2⟩⟩
  rw [mem_iff_getD]
  rintro ⟨j, hj, h3, h4⟩
  rcases Nat.lt_trichotomy i j with c | rfl | c
  · have := rt_gap h c hj; omega
  · omega
  · have := rt_gap h c hi
    have := rt_lt h hi
    omega
theorem gap_ex {l : List Rg} (h : Rt l) (hb : ∀ p ∈ l, p.1 < 18446744073709551616 ∧ p.2 < 18446744073709551616) (x : Nat) (hx : x < 18446744073709551616) : ∃ g, GapOf l x g ∧ g < 18446744073709551616 := by
  by_cases hm : Mem l x
  · obtain ⟨i, hi, h1, h2⟩ := (mem_iff_getD l x).1 hm
    exact ⟨_, gapOf_hi h hi h1 h2, (getD_bd hb i).2⟩
  · exact ⟨x, gapOf_self hm, hx⟩

theorem gap_any {w : World} {a : Option Addr} {l : List Rg} (h : Rr w a l) (hr : Rt l) {n cap x g : Nat} (hn : n = l.length) (hsz : n < 4611686018427387904) (hg : GapOf l x g) :
    Calls Try.prog 74 #[.slice a n cap, .int .u64 x] w fun e w' => e = .returned (.int .u64 g) ∧ Frm [] w w' := by
  have B := Lib.hid (behind_any (cap := cap) (x := x) h hr hn hsz)
  have HN := Lib.hid hn; clear hn
  have H := Lib.hid h; clear h
  have HR := Lib.hid hr; clear hr
  have HG := Lib.hid hg; clear hg
  go_enter Try.func74, Try.ntmps74
  go_wp2_with fail
  refine B.out.mono ?_
  rintro e w' ⟨r, rfl, h0, h1, h2, hf⟩
  have M := Lib.hid (mem_behind HR.out h1 h2)
  have HF := Lib.hid hf
  have H2 := Lib.hid h2
  clear h1 h2 hf
  by_cases hlt : r < l.length
  · obtain ⟨b, off, rfl, hc⟩ := (H.out.keep0 HF.out).2 (by omega)
    obtain ⟨d0, d1⟩ := hc r hlt
    clear hc
    obtain ⟨y, hy⟩ : ∃ y, y = (l.getD r (0, 0)).1 := ⟨_, rfl⟩
    obtain ⟨z, hz⟩ : ∃ y, y = (l.getD r (0, 0)).2 := ⟨_, rfl⟩
    rw [← hy] at d0
    rw [← hz] at d1
    have HY := Lib.hid hy; clear hy
    have HZ := Lib.hid hz; clear hz
    have hne : ((r : Int) == (n : Int)) = false := by have := HN.out; simp; omega
    have hlt' : (r : Int) < (n : Int) := by have := HN.out; omega
    by_cases hxy : (x : Int) < (y : Int)
    · go_wp2
      go_ret
      exact ⟨ret_same (by have := HG.out.uniq (gapOf_self (by rw [M.out, ← HY.out]; omega)); omega), HF.out⟩
    · go_wp2
      go_ret
      exact ⟨ret_same (by have := HG.out.uniq (gapOf_hi HR.out hlt (by rw [← HY.out]; omega) (H2.out r (Nat.le_refl _) hlt)); have := HZ.out; omega), HF.out⟩
  · have hne : ((r : Int) == (n : Int)) = true := by have := HN.out; simp; omega
    go_wp2
    go_ret
    exact ⟨ret_same (by have := HG.out.uniq (gapOf_self (by rw [M.out]; omega)); omega), HF.out⟩

def GOut (x g k : Nat) (v : Nat) : Prop := v = g ∨ (v = x ∧ k = 0)
def GIn (l : List Rg) (x g i : Nat) (v : Nat) : Prop := v = g ∨ (v = x ∧ ∀ t, t < i → ¬ ((l.getD t (0, 0)).1 ≤ x ∧ x < (l.getD t (0, 0)).2))

theorem stood_rg : Try.prog.stoodInHeld 71 = false := by kernel_rfl
theorem fields_rg : Try.prog.underlying 71 = some (.struct (Try.prog.fieldsOf 71)) := by kernel_rfl
theorem part_rg (p0 p1 : Nat) (w : World) : (part 23 #[.int .u64 (p0 : Nat), .int .u64 (p1 : Nat)] 0).run Try.prog w = .ok (.int .u64 (p0 : Nat)) w ∧ (part 23 #[.int .u64 (p0 : Nat), .int .u64 (p1 : Nat)] 1).run Try.prog w = .ok (.int .u64 (p1 : Nat)) w := ⟨by kernel_rfl, by kernel_rfl⟩
theorem fl_rg : ((Try.prog.fieldsOf 71).toList.map fun f => (f.name, f.type, f.offset)) = [("Lo", 23, 0), ("Hi", 23, 1)] := by kernel_rfl
theorem equal_rg (p0 p1 q0 q1 : Nat) (w : World) : (Op.equalIn 10000 71 (.agg #[.int .u64 (p0 : Nat), .int .u64 (p1 : Nat)]) (.agg #[.int .u64 (q0 : Nat), .int .u64 (q1 : Nat)])).run Try.prog w = .ok (decide (((p0, p1) : Rg) = (q0, q1))) w := by
  rw [run_equalIn_struct w 9999 _ _ _ fields_rg stood_rg]
  have hl := fl_rg
  generalize (Try.prog.fieldsOf 71).toList = fs at hl
  have e1 := fun d (x y : Nat) W => run_equalIn_int (P := Try.prog) W d 23 .u64 .u64 (x : Int) (y : Int) Try.underlying23
  rcases fs with _ | ⟨f, _ | ⟨g, _ | ⟨x, fs⟩⟩⟩
  · simp at hl
  · simp at hl
  · simp only [List.map_cons, List.map_nil, List.cons.injEq, Prod.mk.injEq, and_true] at hl
    obtain ⟨⟨n1, t1, o1⟩, n2, t2, o2⟩ := hl
    simp only [Op.eqFields, n1, n2, t1, t2, o1, o2]
    simp only [Sem.run_bind, ne_eq, String.reduceEq, not_false_eq_true, if_true, (part_rg _ _ _).1, Result.andThen_ok, e1 9998]
    by_cases h1 : p0 = q0
    · by_cases h2 : p1 = q1
      · simp [h1, h2, (part_rg _ _ _).2, e1]
      · have h3 : ((p1 : Int) == (q1 : Int)) = false := by simp; omega
        simp [h1, h2, h3, (part_rg _ _ _).2, e1]
    · have h3 : ((p0 : Int) == (q0 : Int)) = false := by simp; omega
      simp [h1, h3]
  · simp at hl
theorem neq_rg (p0 p1 q0 q1 : Nat) (w : World) : (binOp .neq 71 (.agg #[.int .u64 (p0 : Nat), .int .u64 (p1 : Nat)]) (.agg #[.int .u64 (q0 : Nat), .int .u64 (q1 : Nat)])).run Try.prog w = .ok (.bool (!decide (((p0, p1) : Rg) = (q0, q1)))) w := by
  rw [run_neq_struct, equal_rg]; rfl
theorem list_ext_getD {l m : List Rg} (hl : l.length = m.length) (h : ∀ i, i < l.length → l.getD i (0, 0) = m.getD i (0, 0)) : l = m := by
  apply List.ext_getElem hl
  intro i h1 h2
  have := h i h1
  simpa [h1, h2] using this

set_option maxHeartbeats 1000000 in
theorem same_any {w : World} {a a' : Option Addr} {l l' : List Rg} (h : Rr w a l) (h' : Rr w a' l') {n cap n' cap' : Nat} (hn : n = l.length) (hn' : n' = l'.length) (hsz : n < 4611686018427387904) (hsz' : n' < 4611686018427387904) :
    Calls Try.prog 41 #[.slice a n cap, .slice a' n' cap'] w (BoolOf (l = l') w) := by
  have HN := Lib.hid hn; clear hn
  have HN' := Lib.hid hn'; clear hn'
  have H := Lib.hid h; clear h
  have H' := Lib.hid h'; clear h'
  by_cases hne : n = n'
  · subst hne
    have hb : ((n : Int) != (n : Int)) = false := by simp
    go_enter Try.func41, Try.ntmps41
    go_wp2
    clear hb
    go_loopw [5] (fun i wr => ∃ k : Nat, k ≤ n ∧ i = .int .i64 k ∧ Hid (∀ t, t < k → l.getD t (0, 0) = l'.getD t (0, 0)) ∧ Frm [] w wr) (fun i _ => n - (intOf i).toNat)
    case atStart => exact ⟨0, Nat.zero_le _, rfl, fun t ht => absurd ht (Nat.not_lt_zero _), Frm.refl _ _⟩
    case round =>
      obtain ⟨k, hk, rfl, HI, hf⟩ := hrel
      have HF := Lib.hid hf; clear hf
      by_cases hlt : k < n
      · obtain ⟨b, off, rfl, hc⟩ := (H.out.keep0 HF.out).2 (by have := HN.out; omega)
        obtain ⟨b', off', rfl, hc'⟩ := (H'.out.keep0 HF.out).2 (by have := HN'.out; omega)
        obtain ⟨d0, d1⟩ := hc k (by have := HN.out; omega)
        obtain ⟨d0', d1'⟩ := hc' k (by have := HN'.out; omega)
        clear hc hc'
        obtain ⟨x, hx⟩ : ∃ y, y = l.getD k (0, 0) := ⟨_, rfl⟩
        obtain ⟨y, hy⟩ : ∃ y, y = l'.getD k (0, 0) := ⟨_, rfl⟩
        rw [← hx] at d0 d1
        rw [← hy] at d0' d1'
        have HX := Lib.hid hx; clear hx
        have HY := Lib.hid hy; clear hy
        obtain ⟨x0, x1⟩ := x
        obtain ⟨y0, y1⟩ := y
        simp only at d0 d1 d0' d1'
        have hlt' : (k : Int) < (n : Int) := by omega
        by_cases hxy : ((x0, x1) : Rg) = (y0, y1)
        · have e := fun w => neq_rg x0 x1 y0 y1 w
          rw [decide_eq_true hxy] at e
          have HI2 : Hid (∀ t, t < k + 1 → l.getD t (0, 0) = l'.getD t (0, 0)) := by
            intro t ht
            rcases Nat.lt_or_eq_of_le (Nat.le_of_lt_succ ht) with h1 | rfl
            · exact HI.out t h1
            · rw [← HX.out, ← HY.out]; exact hxy
          clear hxy
          go_wp2
          go_quiet (fail)
          go_wp2
          go_roundw
          case rel => exact ⟨k + 1, by omega, by go_num, HI2, HF.out.drewN _⟩
          case measure => simp [intOf]; omega
        · have e := fun w => neq_rg x0 x1 y0 y1 w
          rw [decide_eq_false hxy] at e
          have NE : Hid (l ≠ l') := by
            intro h
            apply hxy
            rw [HX.out, HY.out, h]
          clear hxy
          go_wp2
          go_quiet (fail)
          go_wp2
          go_ret
          exact boolOf_f NE.out (HF.out.drewN _)
      · obtain rfl : k = n := by omega
        go_wp2
        go_ret
        exact boolOf_t (list_ext_getD (by have := HN.out; have := HN'.out; omega) (fun i hi => HI.out i (by have := HN.out; omega))) HF.out
  · have hb : ((n : Int) != (n' : Int)) = true := by simp; omega
    go_enter Try.func41, Try.ntmps41
    go_wp2
    go_ret
    exact boolOf_f (fun h => hne (by rw [HN.out, HN'.out, h])) (Frm.refl _ _)
end Go.Proofs.Ytghadpihmhaepaa
/- Contracts of Check and of the document's Right. -/
namespace Go.Proofs.Ytghadpihmhaepaa
open Go.RowKit

/-- Right, place by place. -/
def RtI (l : List Rg) : Prop := ∀ i, i < l.length → (l.getD i (0, 0)).1 < (l.getD i (0, 0)).2 ∧ (0 < i → (l.getD (i - 1) (0, 0)).2 < (l.getD i (0, 0)).1)
theorem RtI.of {l : List Rg} (h : Rt l) : RtI l := fun i hi => ⟨rt_lt h hi, fun h0 => rt_gap h (by omega) hi⟩
def RtTo (l : List Rg) (k : Nat) : Prop := ∀ i, i < k → (l.getD i (0, 0)).1 < (l.getD i (0, 0)).2 ∧ (0 < i → (l.getD (i - 1) (0, 0)).2 < (l.getD i (0, 0)).1)
theorem RtTo.next {l : List Rg} {k : Nat} (h : RtTo l k) (h1 : (l.getD k (0, 0)).1 < (l.getD k (0, 0)).2) (h2 : 0 < k → (l.getD (k - 1) (0, 0)).2 < (l.getD k (0, 0)).1) : RtTo l (k + 1) := by
  intro i hi
  rcases Nat.lt_or_eq_of_le (Nat.le_of_lt_succ hi) with h3 | rfl
  · exact h i h3
  · exact ⟨h1, h2⟩

set_option maxHeartbeats 2000000 in
theorem right_any {w : World} {a : Option Addr} {l : List Rg} (h : Rr w a l) {n cap : Nat} (hn : n = l.length) (hsz : n < 4611686018427387904) :
    Calls Try.prog 52 #[.slice a n cap] w (BoolOf (RtI l) w) := by
  have HN := Lib.hid hn; clear hn
  have H := Lib.hid h; clear h
  go_enter Try.func52, Try.ntmps52
  go_wp2
  go_loopw [3] (fun i wr => ∃ k : Nat, k ≤ n ∧ i = .int .i64 k ∧ Hid (RtTo l k) ∧ Frm [] w wr) (fun i _ => n - (intOf i).toNat)
  case atStart => exact ⟨0, Nat.zero_le _, rfl, fun t ht => absurd ht (Nat.not_lt_zero _), Frm.refl _ _⟩
  case round =>
    obtain ⟨k, hk, rfl, HI, hf⟩ := hrel
    have HF := Lib.hid hf; clear hf
    by_cases hlt : k < n
    · obtain ⟨b, off, rfl, hc⟩ := (H.out.keep0 HF.out).2 (by have := HN.out; omega)
      obtain ⟨d0, d1⟩ := hc k (by have := HN.out; omega)
      have hlt' : (k : Int) < (n : Int) := by omega
      obtain ⟨x, hx⟩ : ∃ y, y = (l.getD k (0, 0)).1 := ⟨_, rfl⟩
      obtain ⟨y, hy⟩ : ∃ y, y = (l.getD k (0, 0)).2 := ⟨_, rfl⟩
      rw [← hx] at d0
      rw [← hy] at d1
      have HX := Lib.hid hx; clear hx
      have HY := Lib.hid hy; clear hy
      by_cases hxy : x < y
      · have hxy' : ¬ (y : Int) ≤ (x : Int) := by omega
        rcases Nat.eq_zero_or_pos k with hk0 | hk0
        · have HI2 : Hid (RtTo l (k + 1)) := HI.out.next (by rw [← HX.out, ← HY.out]; exact hxy) (fun h => by omega)
          have k1 : decide (0 < k) = false := decide_eq_false (by omega)
          have k2 : decide ((0 : Int) < (k : Int)) = false := decide_eq_false (by omega)
          clear hc hxy hk0
          go_wp2
          go_quiet (fail)
          go_wp2
          go_quiet (fail)
          go_wp2
          go_roundw
          case rel => exact ⟨k + 1, by omega, by go_num, HI2, by repeat (first | exact HF.out | apply Frm.drewN)⟩
          case measure => simp [intOf]; omega
        · obtain ⟨j, rfl⟩ : ∃ j, k = j + 1 := ⟨k - 1, by omega⟩
          clear hk0
          obtain ⟨_, d2⟩ := hc j (by have := HN.out; omega)
          clear hc
          obtain ⟨z, hz⟩ : ∃ y, y = (l.getD j (0, 0)).2 := ⟨_, rfl⟩
          rw [← hz] at d2
          have HZ := Lib.hid hz; clear hz
          have e0 : (((j + 1 : Nat) : Int) - 1) = (j : Int) := by omega
          have hj1 : (j : Int) < (n : Int) := by omega
          by_cases hzx : z < x
          · have hzx' : ¬ (x : Int) ≤ (z : Int) := by omega
            have HI2 : Hid (RtTo l (j + 1 + 1)) := HI.out.next (by rw [← HX.out, ← HY.out]; exact hxy) (fun h => by rw [← HX.out, show j + 1 - 1 = j by omega, ← HZ.out]; exact hzx)
            clear hxy hzx
            go_wp2
            go_quiet (fail)
            go_wp2
            go_quiet (fail)
            go_wp2
            go_roundw
            case rel => exact ⟨j + 1 + 1, by omega, by go_num, HI2, by repeat (first | exact HF.out | apply Frm.drewN)⟩
            case measure => simp [intOf]; omega
          · have hzx' : (x : Int) ≤ (z : Int) := by omega
            have NO : Hid (¬ RtI l) := fun hr => by
              have := (hr (j + 1) (by have := HN.out; omega)).2 (by omega)
              rw [← HX.out, show j + 1 - 1 = j by omega, ← HZ.out] at this
              exact hzx this
            clear hxy hzx
            go_wp2
            go_quiet (fail)
            go_wp2
            go_quiet (fail)
            go_wp2
            go_ret
            exact boolOf_f NO.out (by repeat (first | exact HF.out | apply Frm.drewN))
      · have hxy' : (y : Int) ≤ (x : Int) := by omega
        have NO : Hid (¬ RtI l) := fun hr => by
          have := (hr k (by have := HN.out; omega)).1
          rw [← HX.out, ← HY.out] at this
          exact hxy this
        clear hxy hc
        go_wp2
        go_quiet (fail)
        go_wp2
        go_ret
        exact boolOf_f NO.out (HF.out.drewN _)
    · obtain rfl : k = n := by omega
      go_wp2
      go_ret
      exact boolOf_t (fun i hi => HI.out i (by have := HN.out; omega)) HF.out

set_option maxHeartbeats 2000000 in
theorem check_any {w : World} {a : Option Addr} {l : List Rg} (h : Rr w a l) {n cap : Nat} (hn : n = l.length) (hsz : n < 4611686018427387904) :
    Calls Try.prog 55 #[.slice a n cap] w (BoolOf (RtI l) w) := by
  have HN := Lib.hid hn; clear hn
  have H := Lib.hid h; clear h
  go_enter Try.func55, Try.ntmps55
  go_wp2
  go_loopw [7] (fun i wr => ∃ k : Nat, k ≤ n ∧ i = .int .i64 k ∧ Hid (RtTo l k) ∧ Frm [] w wr) (fun i _ => n - (intOf i).toNat)
  case atStart => exact ⟨0, Nat.zero_le _, rfl, fun t ht => absurd ht (Nat.not_lt_zero _), Frm.refl _ _⟩
  case round =>
    obtain ⟨k, hk, rfl, HI, hf⟩ := hrel
    have HF := Lib.hid hf; clear hf
    by_cases hlt : k < n
    · obtain ⟨b, off, rfl, hc⟩ := (H.out.keep0 HF.out).2 (by have := HN.out; omega)
      obtain ⟨d0, d1⟩ := hc k (by have := HN.out; omega)
      have hlt' : (k : Int) < (n : Int) := by omega
      obtain ⟨x, hx⟩ : ∃ y, y = (l.getD k (0, 0)).1 := ⟨_, rfl⟩
      obtain ⟨y, hy⟩ : ∃ y, y = (l.getD k (0, 0)).2 := ⟨_, rfl⟩
      rw [← hx] at d0
      rw [← hy] at d1
      have HX := Lib.hid hx; clear hx
      have HY := Lib.hid hy; clear hy
      obtain ⟨W, hW⟩ : ∃ W, W = wr.alloc (.cells #[.int .u64 x, .int .u64 y] 71) := ⟨_, rfl⟩
      have hB : Whole W wr.heap.size 71 #[.int .u64 x, .int .u64 y] := by rw [hW]; exact Whole.made _ _ _
      have hFW : Frm [] w W := by rw [hW]; exact HF.out.alloc _
      obtain ⟨g, hg⟩ : ∃ g, g = wr.heap.size := ⟨_, rfl⟩
      rw [← hg] at hB
      have g0 := hB.cell 0
      have g1 := hB.cell 1
      have hglt := hB.lt
      simp only [List.getElem?_toArray] at g0 g1
      have HW := Lib.hid hW; clear hW
      have HG := Lib.hid hg; clear hg
      have HB := Lib.hid hB; clear hB
      have HFW := Lib.hid hFW; clear hFW
      by_cases hxy : x < y
      · have E : Hid (∀ W', Calls Try.prog 79 #[.agg #[.int .u64 x, .int .u64 y]] W' fun e w' => e = .returned (.bool false) ∧ Below W'.heap.size W' w') := fun W' => (empty_any x y W').mono fun e w1 hbo => ⟨(hbo.no (by omega)).1, (hbo.no (by omega)).2.below (by simp) (Nat.le_refl _)⟩
        rcases Nat.eq_zero_or_pos k with hk0 | hk0
        · have HI2 : Hid (RtTo l (k + 1)) := HI.out.next (by rw [← HX.out, ← HY.out]; exact hxy) (fun h => by omega)
          have k1 : decide (0 < k) = false := decide_eq_false (by omega)
          have k2 : decide ((0 : Int) < (k : Int)) = false := decide_eq_false (by omega)
          clear hc hk0
          go_upto_region 4 with (fail)
          rw [← HW.out, ← HG.out]
          clear d0 d1
          have q0 := fun d os => cell_regrown (w := W) g0 d os
          have q1 := fun d os => cell_regrown (w := W) g1 d os
          refine wp_region_quiet_below (by kernel_rfl) (by kernel_rfl) ?_
          repeat (first | go_big_quiet_step (exact Calls.regrown_of (E.out _)) | quiet_step (exact Calls.regrown_of (E.out _)))
          refine wpQuiet_nil ?_
          intro _ hw'
          obtain ⟨⟨nq, osq⟩, hw''⟩ := hw'
          subst hw''
          have hfin : Frm [] w (Go.Sort.grow (redrawn W nq) osq) := HFW.out.trans (Frm.ofBelow (below_regrown W nq osq)) (by simp) (by simp)
          obtain ⟨W2, hW2⟩ : ∃ W2, W2 = Go.Sort.grow (redrawn W nq) osq := ⟨_, rfl⟩
          rw [← hW2] at hfin
          simp only [← hW2]
          have HFIN := Lib.hid hfin
          clear hfin hW2 q0 q1 g0 g1
          go_wp2
          go_roundw
          case rel => exact ⟨k + 1, by omega, by go_num, HI2, HFIN.out⟩
          case measure => simp [intOf]; omega
        · obtain ⟨j, rfl⟩ : ∃ j, k = j + 1 := ⟨k - 1, by omega⟩
          clear hk0
          obtain ⟨_, d2⟩ := hc j (by have := HN.out; omega)
          obtain ⟨z, hz⟩ : ∃ y, y = (l.getD j (0, 0)).2 := ⟨_, rfl⟩
          rw [← hz] at d2
          have HZ := Lib.hid hz; clear hz
          have e2 : W.cell? ⟨b, off + j * 2 + 1, none⟩ = some (.int .u64 z) := by
            rw [HW.out]
            exact ((Frm.refl [] wr).alloc _).cell (p := ⟨b, off + j * 2 + 1, none⟩) (block_lt_of_cell d2) (by simp) |>.trans d2
          have k1 : decide (0 < j + 1) = true := decide_eq_true (by omega)
          have k2 : decide ((0 : Int) < (j : Int) + 1) = true := decide_eq_true (by omega)
          have e0 : (((j + 1 : Nat) : Int) - 1) = (j : Int) := by omega
          have hj1 : (j : Int) < (n : Int) := by omega
          have q2 := fun d os => cell_regrown (w := W) e2 d os
          clear hc d2
          by_cases hzx : z < x
          · have hzx' : ¬ (x : Int) ≤ (z : Int) := by omega
            have HI2 : Hid (RtTo l (j + 1 + 1)) := HI.out.next (by rw [← HX.out, ← HY.out]; exact hxy) (fun h => by rw [← HX.out, show j + 1 - 1 = j by omega, ← HZ.out]; exact hzx)
            go_upto_region 4 with (fail)
            rw [← HW.out, ← HG.out]
            clear d0 d1
            have q0 := fun d os => cell_regrown (w := W) g0 d os
            have q1 := fun d os => cell_regrown (w := W) g1 d os
            refine wp_region_quiet_below (by kernel_rfl) (by kernel_rfl) ?_
            repeat (first | go_big_quiet_step (exact Calls.regrown_of (E.out _)) | quiet_step (exact Calls.regrown_of (E.out _)))
            refine wpQuiet_nil ?_
            intro _ hw'
            obtain ⟨⟨nq, osq⟩, hw''⟩ := hw'
            subst hw''
            have hfin : Frm [] w (Go.Sort.grow (redrawn W nq) osq) := HFW.out.trans (Frm.ofBelow (below_regrown W nq osq)) (by simp) (by simp)
            obtain ⟨W2, hW2⟩ : ∃ W2, W2 = Go.Sort.grow (redrawn W nq) osq := ⟨_, rfl⟩
            rw [← hW2] at hfin
            simp only [← hW2]
            have HFIN := Lib.hid hfin
            clear hfin hW2 q2 e2 q0 q1 g0 g1
            go_wp2
            go_roundw
            case rel => exact ⟨j + 1 + 1, by omega, by go_num, HI2, HFIN.out⟩
            case measure => simp [intOf]; omega
          · have hzx' : (x : Int) ≤ (z : Int) := by omega
            have NO : Hid (¬ RtI l) := fun hr => by
              have := (hr (j + 1) (by have := HN.out; omega)).2 (by omega)
              rw [← HX.out, show j + 1 - 1 = j by omega, ← HZ.out] at this
              exact hzx this
            go_upto_region 4 with (fail)
            rw [← HW.out, ← HG.out]
            clear d0 d1
            have q0 := fun d os => cell_regrown (w := W) g0 d os
            have q1 := fun d os => cell_regrown (w := W) g1 d os
            refine wp_region_quiet_below (by kernel_rfl) (by kernel_rfl) ?_
            repeat (first | go_big_quiet_step (exact Calls.regrown_of (E.out _)) | quiet_step (exact Calls.regrown_of (E.out _)))
            refine wpQuiet_nil ?_
            intro _ hw'
            obtain ⟨⟨nq, osq⟩, hw''⟩ := hw'
            subst hw''
            have hfin : Frm [] w (Go.Sort.grow (redrawn W nq) osq) := HFW.out.trans (Frm.ofBelow (below_regrown W nq osq)) (by simp) (by simp)
            obtain ⟨W2, hW2⟩ : ∃ W2, W2 = Go.Sort.grow (redrawn W nq) osq := ⟨_, rfl⟩
            rw [← hW2] at hfin
            simp only [← hW2]
            have HFIN := Lib.hid hfin
            clear hfin hW2 q2 e2 q0 q1 g0 g1
            go_wp2
            go_ret
            exact boolOf_f NO.out HFIN.out
      · have E : Hid (∀ W', Calls Try.prog 79 #[.agg #[.int .u64 x, .int .u64 y]] W' fun e w' => e = .returned (.bool true) ∧ Below W'.heap.size W' w') := fun W' => (empty_any x y W').mono fun e w1 hbo => ⟨(hbo.yes (by omega)).1, (hbo.yes (by omega)).2.below (by simp) (Nat.le_refl _)⟩
        have NO : Hid (¬ RtI l) := fun hr => by
          have := (hr k (by have := HN.out; omega)).1
          rw [← HX.out, ← HY.out] at this
          exact hxy this
        clear hc
        go_upto_region 4 with (fail)
        rw [← HW.out, ← HG.out]
        clear d0 d1
        have q0 := fun d os => cell_regrown (w := W) g0 d os
        have q1 := fun d os => cell_regrown (w := W) g1 d os
        refine wp_region_quiet_below (by kernel_rfl) (by kernel_rfl) ?_
        repeat (first | go_big_quiet_step (exact Calls.regrown_of (E.out _)) | quiet_step (exact Calls.regrown_of (E.out _)))
        refine wpQuiet_nil ?_
        intro _ hw'
        obtain ⟨⟨nq, osq⟩, hw''⟩ := hw'
        subst hw''
        have hfin : Frm [] w (Go.Sort.grow (redrawn W nq) osq) := HFW.out.trans (Frm.ofBelow (below_regrown W nq osq)) (by simp) (by simp)
        obtain ⟨W2, hW2⟩ : ∃ W2, W2 = Go.Sort.grow (redrawn W nq) osq := ⟨_, rfl⟩
        rw [← hW2] at hfin
        simp only [← hW2]
        have HFIN := Lib.hid hfin
        clear hfin hW2 q0 q1 g0 g1
        go_wp2
        go_ret
        exact boolOf_f NO.out HFIN.out
    · obtain rfl : k = n := by omega
      go_wp2
      go_ret
      exact boolOf_t (fun i hi => HI.out i (by have := HN.out; omega)) HF.out
end Go.Proofs.Ytghadpihmhaepaa
/- Rows of ranges that a call makes: appending ranges; Clone, Grow, Concat. -/
namespace Go.Proofs.Ytghadpihmhaepaa
open Go.RowKit

theorem Try.info71 : (Try.prog.info? 71).map (fun i => (i.zero, i.size, i.bytes)) = some (some (.agg #[.int .u64 0, .int .u64 0]), 2, 16) := by kernel_rfl

/-- Ranges, cell by cell. -/
def fl (l : List Rg) : List Value := l.flatMap fun p => [.int .u64 (p.1 : Nat), .int .u64 (p.2 : Nat)]
theorem fl_append (a b : List Rg) : fl (a ++ b) = fl a ++ fl b := by unfold fl; simp
theorem fl_length (l : List Rg) : (fl l).length = l.length * 2 := by
  induction l with
  | nil => rfl
  | cons p l ih => unfold fl at ih ⊢; simp at ih ⊢; omega
theorem fl_one (l : List Rg) : ∀ u ∈ fl l, u.oneCell' = true := by
  intro u hu
  unfold fl at hu
  simp at hu
  obtain ⟨a, b, _, h | h⟩ := hu <;> subst h <;> rfl
theorem fl_at (l : List Rg) : ∀ i, i < l.length → (fl l)[i * 2]? = some (.int .u64 ((l.getD i (0, 0)).1 : Nat)) ∧ (fl l)[i * 2 + 1]? = some (.int .u64 ((l.getD i (0, 0)).2 : Nat)) := by
  induction l with
  | nil => intro i hi; simp at hi
  | cons p l ih =>
    intro i hi
    have e : fl (p :: l) = .int .u64 (p.1 : Nat) :: .int .u64 (p.2 : Nat) :: fl l := rfl
    rw [e]
    rcases i with _ | i
    · exact ⟨rfl, rfl⟩
    · have := ih i (by simpa using hi)
      have h1 : (i + 1) * 2 = i * 2 + 1 + 1 := by omega
      rw [h1]
      simpa using this
theorem rr_news {w : World} {b off : Nat} {l : List Rg} (h : ∀ i, i < l.length → w.cell? ⟨b, off + i * 2, none⟩ = some (.int .u64 ((l.getD i (0, 0)).1 : Nat)) ∧ w.cell? ⟨b, off + i * 2 + 1, none⟩ = some (.int .u64 ((l.getD i (0, 0)).2 : Nat))) :
    ∀ j u, (fl l)[j]? = some u → w.cell? ((⟨b, off, none⟩ : Addr).add j) = some u := by
  intro j u hu
  have hj : j < l.length * 2 := by
    rcases Nat.lt_or_ge j (l.length * 2) with h' | h'
    · exact h'
    · rw [List.getElem?_eq_none (by rw [fl_length]; exact h')] at hu; cases hu
  rw [addr_add]
  have hi := h (j / 2) (by omega)
  have hf := fl_at l (j / 2) (by omega)
  rcases Nat.mod_two_eq_zero_or_one j with hm | hm
  · have e : j / 2 * 2 = j := by omega
    rw [e] at hi hf
    rw [hf.1] at hu; cases hu; exact hi.1
  · have e : j / 2 * 2 + 1 = j := by omega
    rw [Nat.add_assoc, e] at hi
    rw [e] at hf
    rw [hf.2] at hu; cases hu; exact hi.2

def Bd (l : List Rg) : Prop := ∀ p ∈ l, p.1 < 18446744073709551616 ∧ p.2 < 18446744073709551616
theorem Bd.append {a b : List Rg} (h : Bd a) (k : Bd b) : Bd (a ++ b) := fun p hp => (List.mem_append.1 hp).elim (h p) (k p)

/-- A row of the call's own with the ranges l. -/
def OwnR (w : World) (base : Nat) (a : Option Addr) (cap : Nat) (l : List Rg) : Prop := w.ownsRow base 71 2 (.slice a l.length cap) l.length (fl l)
theorem OwnR.rr {w : World} {base : Nat} {a : Option Addr} {cap : Nat} {l : List Rg} (h : OwnR w base a cap l) (hb : Bd l) : Rr w a l ∧ (a = none → cap = 0) ∧ l.length ≤ cap ∧ cap ≤ maxLen := by
  refine ⟨⟨hb, fun h0 => ?_⟩, ?_⟩
  · rcases h.2 with ⟨_, h1⟩ | ⟨g, cap', cur, hv, hb, hg, hnc, hcm, hcs, ht⟩
    · omega
    · simp only [Value.slice.injEq] at hv
      obtain ⟨rfl, _, rfl⟩ := hv
      refine ⟨g, 0, rfl, fun i hi => ?_⟩
      have hh : w.ownsRow base 71 2 (.slice (some ⟨g, 0, none⟩) l.length cap) l.length (fl l) := h
      have f := fl_at l i hi
      rw [Nat.zero_add, hh.cellAt (i * 2) (by omega), hh.cellAt (i * 2 + 1) (by omega)]
      exact f
  · rcases h.2 with ⟨hv, h1⟩ | ⟨g, cap', cur, hv, hb, hg, hnc, hcm, hcs, ht⟩
    · simp only [Value.slice.injEq] at hv
      exact ⟨fun _ => hv.2.2, by omega, by rw [hv.2.2]; simp⟩
    · simp only [Value.slice.injEq] at hv
      obtain ⟨rfl, _, rfl⟩ := hv
      exact ⟨fun h => by simp at h, hnc, hcm⟩
theorem OwnR.keep {w w' : World} {base : Nat} {a : Option Addr} {cap : Nat} {l : List Rg} {S : List Nat} (h : OwnR w base a cap l) (hf : Frm S w w') (hn : ∀ x, a = some x → x.block ∉ S) : OwnR w' base a cap l :=
  hf.own h (fun g hg => by
    cases a with
    | none => simp [Value.ownBlock] at hg
    | some x => simp only [Value.ownBlock, Option.some.injEq] at hg; subst hg; exact hn x rfl)
theorem OwnR.lt {w : World} {base : Nat} {a : Option Addr} {cap : Nat} {l : List Rg} (h : OwnR w base a cap l) : ∀ x, a = some x → base ≤ x.block ∧ x.block < w.heap.size := fun x hx => World.ownsRow.lt h x.block (by rw [hx]; rfl)
theorem OwnR.nil (w : World) (base : Nat) : OwnR w base none 0 [] := World.ownsRow_nil _ _ _ _

section
variable {P : Program} {w : World}
/-- What appending the ranges l to an owned value leaves. -/
structure AppR (w w' : World) (base : Nat) (e : TypeId) (v : Value) (n m : Nat) (xs : List Value) (l : List Rg) (a' : Option Addr) (cap' : Nat) : Prop where
  own : w'.ownsRow base e 2 (.slice a' (n + m) cap') (n + m) (xs ++ fl l)
  grown : w.grownBy w' v.ownBlock
  place : (Value.slice a' (n + m) cap').ownBlock = v.ownBlock ∨ (Value.slice a' (n + m) cap').ownBlock = some w.heap.size

theorem run_appR (base : Nat) (t ty e : TypeId) (i : TypeInfo) (ht : P.underlying t = some (.slice e)) (hi : P.info? e = some i) (hz : i.zero = some (.agg #[.int .u64 0, .int .u64 0]))
    (hsize : i.size = 2) (hby : i.bytes = 16) (v : Value) (n : Nat) (xs : List Value) (hown : w.ownsRow base e 2 v n xs)
    (ad : Option Addr) (m c : Nat) (l : List Rg) (hB : Rr w ad l) (hm : m = l.length) (hnil : ad = none → c = 0)
    (hfit : n + m ≤ 1000000) (hbase : base ≤ w.heap.size) :
    ∃ a' cap' w', (Builtin.append_ #[t, t] ty #[v, .slice ad m c]).run P w = .ok (.slice a' (n + m) cap') w' ∧ AppR w w' base e v n m xs l a' cap' := by
  have shape : ∀ (v' : Value) (w' : World) (k : Nat) (ys : List Value), w'.ownsRow base e 2 v' k ys → ∃ a' cap', v' = .slice a' k cap' := by
    intro v' w' k ys h
    rcases h.2 with ⟨hv, h0⟩ | ⟨g, cap', cur, hv, _⟩
    · exact ⟨none, 0, by rw [hv, h0]⟩
    · exact ⟨_, cap', hv⟩
  have hll := fl_length l
  cases ad with
  | none =>
    have hc0 := hnil rfl
    subst hc0
    have hl0 : l = [] := by
      rcases Nat.eq_zero_or_pos l.length with h | h
      · exact List.eq_nil_of_length_eq_zero h
      · obtain ⟨b, off, h, _⟩ := hB.2 h; cases h
    subst hl0
    have hm0 : m = 0 := by simpa using hm
    subst hm0
    obtain ⟨a', cap', hv⟩ := shape v w n xs hown
    subst hv
    exact ⟨a', cap', w, run_append_owned_none (P := P) (w := w) base t ty e i 2 ht hi _ n xs hown, by simpa [fl] using hown, World.grownBy.refl _ _, .inl rfl⟩
  | some x =>
    have hnews : ∀ j u, (fl l)[j]? = some u → w.cell? (x.add j) = some u := by
      rcases Nat.eq_zero_or_pos l.length with h | h
      · have : l = [] := List.eq_nil_of_length_eq_zero h
        subst this; intro j u hu; simp [fl] at hu
      · obtain ⟨b, off, h, hh⟩ := hB.2 h; cases h; exact rr_news hh
    obtain ⟨v', w', hr, ho, hg, _, hpl⟩ := run_append_own_at (P := P) w base t ty e i (.agg #[.int .u64 0, .int .u64 0]) 2 16 ht hi hz hsize hby rfl (by decide) v n xs hown x m c (fl l) (by rw [hll, hm]) hnews (fl_one l) (by unfold maxLen; omega) (by omega) hbase
    obtain ⟨a', cap', hv⟩ := shape v' w' (n + m) _ ho
    subst hv
    exact ⟨a', cap', w', hr, ho, hg, hpl⟩

theorem wpList_appR {ops : Array Oper} {rest : List Oper} {o : Oper} {a : Act} {Q : Exit → Act → World → Prop} (hgd : o.guard = none) (s x : Operand) (t : TypeId)
    (ho : o.op = .call { callee := .builtin .append, args := #[s, x], argTypes := #[t, t] })
    (base : Nat) (e : TypeId) (i : TypeInfo) (ht : P.underlying t = some (.slice e)) (hi : P.info? e = some i) (hz : i.zero = some (.agg #[.int .u64 0, .int .u64 0]))
    (hsize : i.size = 2) (hby : i.bytes = 16) (v : Value) (n : Nat) (xs : List Value) (hs : a.eval s = v) (hown : w.ownsRow base e 2 v n xs)
    (ad : Option Addr) (m c : Nat) (l : List Rg) (hx : a.eval x = .slice ad m c) (hB : Rr w ad l) (hm : m = l.length) (hnil : ad = none → c = 0)
    (hfit : n + m ≤ 1000000) (hbase : base ≤ w.heap.size)
    (h : ∀ a' cap' w', AppR w w' base e v n m xs l a' cap' → wpList P ops Q rest (a.put o.dst (.slice a' (n + m) cap')) w') : wpList P ops Q (o :: rest) a w := by
  refine wpList_plain hgd fun K hK => ?_
  obtain ⟨a', cap', w', hr, h2⟩ := run_appR (P := P) base t o.type e i ht hi hz hsize hby v n xs hown ad m c l hB hm hnil hfit hbase
  unfold Oper.wp execOp
  simp only [ho, resolve, invoke, builtin, Sem.run_bind, Sem.run_pure, Result.andThen_ok, List.map_toArray, List.map_cons, List.map_nil, hs, hx, hr]
  exact hK _ _ (h a' cap' w' h2)

theorem step_appR {ops : Array Oper} {o : Oper} {a : Act} {K : Act → World → Prop} {Q : Exit → Act → World → Prop} {E : Prop} (hgd : o.guard = none) (s x : Operand) (t : TypeId)
    (ho : o.op = .call { callee := .builtin .append, args := #[s, x], argTypes := #[t, t] })
    (base : Nat) (e : TypeId) (i : TypeInfo) (ht : P.underlying t = some (.slice e)) (hi : P.info? e = some i) (hz : i.zero = some (.agg #[.int .u64 0, .int .u64 0]))
    (hsize : i.size = 2) (hby : i.bytes = 16) (v : Value) (n : Nat) (xs : List Value) (hs : a.eval s = v) (hown : w.ownsRow base e 2 v n xs)
    (ad : Option Addr) (m c : Nat) (l : List Rg) (hx : a.eval x = .slice ad m c) (hB : Rr w ad l) (hm : m = l.length) (hnil : ad = none → c = 0)
    (hfit : n + m ≤ 1000000) (hbase : base ≤ w.heap.size)
    (h : ∀ a' cap' w', AppR w w' base e v n m xs l a' cap' → K (a.put o.dst (.slice a' (n + m) cap')) w') :
    if Region.wanted o (yielded ops a.tmps) = true then Oper.wp P o a w K Q else E := by
  have hw : Region.wanted o (yielded ops a.tmps) = true := by simp [Region.wanted, hgd]
  rw [if_pos hw]
  obtain ⟨a', cap', w', hr, h2⟩ := run_appR (P := P) base t o.type e i ht hi hz hsize hby v n xs hown ad m c l hB hm hnil hfit hbase
  unfold Oper.wp execOp
  simp only [ho, resolve, invoke, builtin, Sem.run_bind, Sem.run_pure, Result.andThen_ok, List.map_toArray, List.map_cons, List.map_nil, hs, hx, hr]
  exact h a' cap' w' h2
end

/-- What a call hands back that makes ranges of its own. -/
def RetR (w : World) (l : List Rg) (e : Ending) (w' : World) : Prop := ∃ a' cap', e = .returned (.slice a' l.length cap') ∧ OwnR w' w.heap.size a' cap' l ∧ Frm [] w w'
theorem frm_app {S : List Nat} {w w1 w2 : World} {base : Nat} {e : TypeId} {a : Option Addr} {n n' cap m : Nat} {xs : List Value} {l : List Rg} {a' : Option Addr} {cap' : Nat} (hf : Frm S w w1) (h : AppR w1 w2 base e (.slice a n' cap) n m xs l a' cap') (ha : ∀ x, a = some x → x.block ∈ S ∨ w.heap.size ≤ x.block) : Frm S w w2 :=
  hf.grown h.grown (fun k hk => by
    cases a with
    | none => simp [Value.ownBlock] at hk
    | some x => simp only [Value.ownBlock, Option.some.injEq] at hk; subst hk; exact ha x rfl)

set_option maxHeartbeats 1000000 in
theorem cloneR_any {w : World} {a : Option Addr} {l : List Rg} (h : Rr w a l) {n cap : Nat} (hn : n = l.length) (hnil : a = none → cap = 0) (hsz : n ≤ 100000) :
    Calls Try.prog 94 #[.slice a n cap] w (RetR w l) := by
  have hq := fun (w : World) (a : Option Addr) (n c n' c' : Nat) => Lib.run_eql_slice_nil (P := Try.prog) w 53 71 a n c n' c' Try.underlying53
  cases a with
  | none =>
    have h0 : l = [] := by
      rcases Nat.eq_zero_or_pos l.length with h1 | h1
      · exact List.eq_nil_of_length_eq_zero h1
      · obtain ⟨b, off, h, _⟩ := h.2 h1; cases h
    subst h0
    obtain rfl := hnil rfl
    subst hn
    go_enter Try.func94, Try.ntmps94
    go_wp2
    go_ret
    exact ⟨none, 0, rfl, OwnR.nil _ _, Frm.refl _ _⟩
  | some x =>
    obtain ⟨i0, hi, hz0, hz1, hz2⟩ := info_parts Try.info71
    have HL := Lib.hid h; clear h
    have HN := Lib.hid hn; clear hn
    have HI := Lib.hid hi; clear hi
    have HZ0 := Lib.hid hz0; clear hz0
    have HZ1 := Lib.hid hz1; clear hz1
    have HZ2 := Lib.hid hz2; clear hz2
    clear hnil
    go_enter Try.func94, Try.ntmps94
    go_wp2_with (at_builtin; refine wpList_appR rfl (.tmp 5) (.tmp 6) 53 rfl w.heap.size 71 i0 Try.underlying53 HI.out HZ0.out HZ1.out HZ2.out _ 0 [] rfl ?own1 _ _ _ l rfl ?b1 HN.out ?nil1 ?fit1 ?base1 ?_)
    case own1 => exact World.ownsRow_lit w #[] 0 (Nat.le_refl _) (by unfold maxLen; omega) rfl
    case b1 => exact HL.out.keep0 ((Frm.refl [] w).alloc _)
    case nil1 => intro h; cases h
    case fit1 => omega
    case base1 => simp
    intro a2 cap2 w2 happ
    have HF := Lib.hid (frm_app ((Frm.refl [] w).alloc _) happ (fun x hx => .inr (by cases hx; simp)))
    have ho : OwnR w2 w.heap.size a2 cap2 l := by
      have h1 := happ.own
      rw [HN.out] at h1
      simpa [OwnR] using h1
    have HO := Lib.hid ho
    clear happ ho
    go_wp2
    go_ret
    have h := HN.out
    subst h
    exact ⟨a2, cap2, rfl, HO.out, HF.out⟩
end Go.Proofs.Ytghadpihmhaepaa
/- Contracts of slices.Grow (of nil) and slices.Concat over ranges, and of 'ends'. -/
namespace Go.Proofs.Ytghadpihmhaepaa
open Go.RowKit

/-- A row with no element yet. -/
def GrowR (w : World) (e : Ending) (w' : World) : Prop := ∃ a' cap', e = .returned (.slice a' 0 cap') ∧ OwnR w' w.heap.size a' cap' [] ∧ Frm [] w w'

set_option maxHeartbeats 1000000 in
theorem growR_any (n : Nat) (w : World) (hn : n ≤ 100000) : Calls Try.prog 108 #[.slice none 0 0, .int .i64 n] w (GrowR w) := by
  by_cases h0 : n = 0
  · subst h0
    go_enter Try.func108, Try.ntmps108
    go_wp2
    go_ret
    exact ⟨none, 0, rfl, OwnR.nil _ _, Frm.refl _ _⟩
  · obtain ⟨i0, hi, hz0, hz1, hz2⟩ := info_parts Try.info71
    have h1 : ¬ ((n : Int) < 0) := by omega
    have h4 : 0 < (n : Int) := by omega
    have hold : (Builtin.firstCells i0.size 0 (.slice none 0 0)).run Try.prog w.drew = .ok ([] : List Value).toArray w.drew := run_firstCells_none w.drew i0.size 0 0 0
    have hrz : ∀ ty, (Builtin.append_ #[53, 3] ty #[.slice none 0 0, .int .i64 (n : Int)]).run Try.prog w =
        .ok (.slice (some ⟨w.heap.size, 0, none⟩) n (grownCap w n 0 71)) (w.drew.alloc (.cells (#[] ++ Builtin.zeroCells #[.int .u64 0, .int .u64 0] n ++ Builtin.zeroCells #[.int .u64 0, .int .u64 0] (grownCap w n 0 71 - n)) 71)) := fun ty => by
      have h := Lib.run_append_grow_zeros w 53 3 ty 71 i0 (.agg #[.int .u64 0, .int .u64 0]) .i64 .i64 Try.underlying53 Try.underlying3 hi hz0 none 0 0 [] hold n (by omega) (by omega) (by omega) (by omega)
        (by rw [hz2]; omega)
        (by rw [hz2, Nat.zero_add]; exact growslice_fits (by omega) (by omega))
      rw [Nat.zero_add] at h
      exact h
    have hGn : n ≤ grownCap w n 0 71 := grownCap_ge w _ _ _
    have hGm := grownCap_le_maxLen w n 0 71 (by unfold maxLen; omega)
    obtain ⟨G, hG⟩ : ∃ G, G = grownCap w n 0 71 := ⟨_, rfl⟩
    rw [← hG] at hrz hGn hGm
    have hG63 : G ≤ 9223372036854775807 := by unfold maxLen at hGm; omega
    have hsz : (Builtin.zeroCells #[.int .u64 0, .int .u64 0] n ++ Builtin.zeroCells #[.int .u64 0, .int .u64 0] (G - n)).size = G * 2 := by
      rw [Array.size_append, size_zeroCells, size_zeroCells]
      show n * 2 + (G - n) * 2 = G * 2
      omega
    have HO : Hid (OwnR (w.alloc (.cells (Builtin.zeroCells #[.int .u64 0, .int .u64 0] n ++ Builtin.zeroCells #[.int .u64 0, .int .u64 0] (G - n)) 71)).drew w.heap.size (some ⟨w.heap.size, 0, none⟩) G []) := by
      have := World.ownsRow_made (base := w.heap.size) (e := 71) (size := 2) w.drew (Builtin.zeroCells #[.int .u64 0, .int .u64 0] n ++ Builtin.zeroCells #[.int .u64 0, .int .u64 0] (G - n)) G (Nat.le_refl _) hGm hsz
      exact this
    have HF : Hid (Frm [] w (w.alloc (.cells (Builtin.zeroCells #[.int .u64 0, .int .u64 0] n ++ Builtin.zeroCells #[.int .u64 0, .int .u64 0] (G - n)) 71)).drew) := ((Frm.refl _ _).alloc _).drew
    simp only [Array.empty_append] at hrz
    clear hold hG hsz hi hz0 hz1 hz2 h0 hGm
    go_enter Try.func108, Try.ntmps108
    go_wp2_with (at_builtin; refine Lib.wpList_append_run _ rfl _ _ _ _ rfl _ _ rfl rfl _ _ (hrz _) ?_)
    all_goals
      go_ret
      exact ⟨_, _, rfl, HO.out, HF.out⟩
end Go.Proofs.Ytghadpihmhaepaa
/- Contracts of slices.Concat over ranges, and of 'ends'. -/
namespace Go.Proofs.Ytghadpihmhaepaa
open Go.RowKit

/-- One of the slices that are joined. -/
structure Sl where
  a : Option Addr
  cap : Nat
  l : List Rg
instance : Inhabited Sl := ⟨⟨none, 0, []⟩⟩
def SlIn (w : World) (s : Sl) : Prop := Rr w s.a s.l ∧ (s.a = none → s.cap = 0) ∧ s.l.length ≤ s.cap ∧ s.cap ≤ 9223372036854775807
theorem SlIn.keep {w w' : World} {s : Sl} (h : SlIn w s) (hf : Frm [] w w') : SlIn w' s := ⟨h.1.keep0 hf, h.2.1, h.2.2⟩
def all (ss : List Sl) : List Rg := ss.flatMap Sl.l
theorem all_take {ss : List Sl} {k : Nat} (h : k < ss.length) : all (ss.take (k + 1)) = all (ss.take k) ++ (ss.getD k default).l := by
  have e : ss.getD k default = ss[k] := by simp [h]
  unfold all
  rw [e, List.take_succ_eq_append_getElem h, List.flatMap_append, List.flatMap_singleton]
theorem all_take_le (ss : List Sl) (k : Nat) : (all (ss.take k)).length ≤ (all ss).length := by
  have h : all (ss.take k) ++ all (ss.drop k) = all ss := by unfold all; rw [← List.flatMap_append, List.take_append_drop]
  have := congrArg List.length h
  rw [List.length_append] at this
  omega
/-- Slices that lie side by side. -/
def SlsIn (w : World) (g : Nat) (ss : List Sl) : Prop := ∀ k, k < ss.length → w.cell? ⟨g, k, none⟩ = some (.slice (ss.getD k default).a (ss.getD k default).l.length (ss.getD k default).cap) ∧ SlIn w (ss.getD k default)
theorem SlsIn.keep {w w' : World} {g : Nat} {ss : List Sl} (h : SlsIn w g ss) (hf : Frm [] w w') : SlsIn w' g ss := fun k hk =>
  ⟨(hf.cell (p := ⟨g, k, none⟩) (block_lt_of_cell (h k hk).1) (by simp)).trans (h k hk).1, (h k hk).2.keep hf⟩

def CatRel (w0 : World) (base : Nat) (ss : List Sl) (n : Nat) (v i : Value) (wr : World) : Prop :=
  ∃ (k : Nat) (a : Option Addr) (cap : Nat), k ≤ n ∧ i = .int .i64 k ∧ v = .slice a (all (ss.take k)).length cap ∧ OwnR wr base a cap (all (ss.take k)) ∧ Frm [] w0 wr

set_option maxHeartbeats 2000000 in
theorem concatR_any {w : World} {g : Nat} {ss : List Sl} (h : SlsIn w g ss) {n : Nat} (hn : n = ss.length) (hn3 : n ≤ 10) (hsz : (all ss).length ≤ 100000) :
    Calls Try.prog 98 #[.slice (some ⟨g, 0, none⟩) n n] w (RetR w (all ss)) := by
  have H := Lib.hid h; clear h
  have HN := Lib.hid hn; clear hn
  have HS := Lib.hid hsz; clear hsz
  go_enter Try.func98, Try.ntmps98
  go_wp2
  go_loop [3, 11] (fun s i => ∃ k : Nat, k ≤ n ∧ i = .int .i64 k ∧ s = .int .i64 ((all (ss.take k)).length : Nat)) (fun _ i => n - (intOf i).toNat)
  case atStart => exact ⟨0, Nat.zero_le _, rfl, rfl⟩
  case round =>
    obtain ⟨k, hk, rfl, rfl⟩ := hrel
    by_cases hlt : k < n
    · obtain ⟨c0, s1, s2, s3, s4⟩ := H.out k (by have := HN.out; omega)
      have st := all_take (ss := ss) (k := k) (by have := HN.out; omega)
      have le1 := all_take_le ss (k + 1)
      have le2 := HS.out
      rw [st, List.length_append] at le1
      have st2 : (all (ss.take (k + 1))).length = (all (ss.take k)).length + (ss.getD k default).l.length := by rw [st, List.length_append]
      obtain ⟨m, hm⟩ : ∃ m, m = (all (ss.take k)).length := ⟨_, rfl⟩
      obtain ⟨s, hs⟩ : ∃ s, s = ss.getD k default := ⟨_, rfl⟩
      rw [← hs] at c0 s1 s2 s3 s4 le1 st2
      rw [← hm] at le1 st2 ⊢
      have ST := Lib.hid st2
      have hmb : m + s.l.length ≤ 100000 := by omega
      clear s1 s2 st st2 hm hs le1 le2
      obtain ⟨sa, sc, sl⟩ := s
      simp only at c0 s3 s4 ST hmb
      have hlt' : (k : Int) < (n : Int) := by omega
      have hneg : ¬ ((m : Int) + (sl.length : Int) < 0) := by omega
      go_wp2
      go_round
      case rel => exact ⟨k + 1, by omega, by go_num, int_eq (by rw [ST.out]; omega)⟩
      case measure => simp [intOf]; omega
    · obtain rfl : k = n := by omega
      have eall : all (ss.take k) = all ss := by rw [List.take_of_length_le (by have := HN.out; omega)]
      rw [eall]
      obtain ⟨m, hm⟩ : ∃ m, m = (all ss).length := ⟨_, rfl⟩
      rw [← hm]
      have hm1 : m ≤ 100000 := by have := HS.out; omega
      have HM := Lib.hid hm; clear hm eall
      go_wp2_with fail
      refine (growR_any m w hm1).mono ?_
      rintro e w1 ⟨a1, c1, rfl, ho, hf⟩
      have HO := Lib.hid ho; clear ho
      have HF := Lib.hid hf; clear hf
      clear hlt hk
      go_wp2
      go_loopw [6, 27] (fun v i wr => CatRel w w.heap.size ss k v i wr) (fun _ i _ => k - (intOf i).toNat)
      case atStart => exact ⟨0, a1, c1, Nat.zero_le _, rfl, rfl, HO.out, HF.out⟩
      case round =>
        obtain ⟨j, aj, cj, hj, rfl, rfl, hown, hf⟩ := hrel
        have HFJ := Lib.hid hf; clear hf
        have HOJ := Lib.hid hown; clear hown
        by_cases hlt : j < k
        · obtain ⟨c0, s1, s2, s3, s4⟩ := (H.out.keep HFJ.out) j (by have := HN.out; omega)
          have st := all_take (ss := ss) (k := j) (by have := HN.out; omega)
          have le1 := all_take_le ss (j + 1)
          have le2 := HS.out
          rw [st, List.length_append] at le1
          obtain ⟨s, hs⟩ : ∃ s, s = ss.getD j default := ⟨_, rfl⟩
          rw [← hs] at c0 s1 s2 s3 s4 le1 st
          obtain ⟨lj, hlj⟩ : ∃ lj, lj = all (ss.take j) := ⟨_, rfl⟩
          rw [← hlj] at le1 st HOJ ⊢
          obtain ⟨sa, sc, sl⟩ := s
          simp only at c0 s1 s2 s3 s4 le1 st
          have ST := Lib.hid st
          have S1 := Lib.hid s1
          have S2 := Lib.hid s2
          clear st hlj hs s1 s2
          have hlt' : (j : Int) < (k : Int) := by omega
          obtain ⟨i0, hi, hz0, hz1, hz2⟩ := info_parts Try.info71
          have HI := Lib.hid hi; clear hi
          have HZ0 := Lib.hid hz0; clear hz0
          have HZ1 := Lib.hid hz1; clear hz1
          have HZ2 := Lib.hid hz2; clear hz2
          have hbz : w.heap.size ≤ wr.heap.size := HFJ.out.size
          obtain ⟨nj, hnj⟩ : ∃ nj, nj = lj.length := ⟨_, rfl⟩
          obtain ⟨ns, hns⟩ : ∃ ns, ns = sl.length := ⟨_, rfl⟩
          rw [← hns] at c0 s3 le1
          rw [← hnj] at le1 ⊢
          have HNJ := Lib.hid hnj; clear hnj
          have HNS := Lib.hid hns; clear hns
          go_wp2_with (at_builtin; refine wpList_appR rfl (.tmp 31) (.tmp 32) 53 rfl w.heap.size 71 i0 Try.underlying53 HI.out HZ0.out HZ1.out HZ2.out _ nj (fl lj) rfl ?own1 _ _ _ sl rfl S1.out HNS.out S2.out ?fit1 hbz ?_)
          case own1 => rw [HNJ.out]; exact HOJ.out
          case fit1 => omega
          intro a2 c2 w2 happ
          have HF2 := Lib.hid (frm_app HFJ.out happ (fun x hx => .inr (HOJ.out.lt x hx).1))
          have ho2 : OwnR w2 w.heap.size a2 c2 (lj ++ sl) := by
            have h1 := happ.own
            rw [HNJ.out, HNS.out, ← fl_append] at h1
            unfold OwnR
            rw [List.length_append]; exact h1
          have HO2 := Lib.hid ho2
          clear happ ho2 hbz
          go_wp2
          go_roundw
          case rel => exact ⟨j + 1, a2, c2, by omega, by go_num, by rw [ST.out, List.length_append, ← HNJ.out, ← HNS.out], by rw [ST.out]; exact HO2.out, HF2.out⟩
          case measure => simp [intOf]; omega
        · obtain rfl : j = k := by omega
          have eall : all (ss.take j) = all ss := by rw [List.take_of_length_le (by have := HN.out; omega)]
          rw [eall] at HOJ ⊢
          have FIN : Hid (RetR w (all ss) (.returned (.slice aj (all ss).length cj)) wr) := ⟨aj, cj, rfl, HOJ.out, HFJ.out⟩
          clear eall
          go_wp2
          go_ret
          exact FIN.out
end Go.Proofs.Ytghadpihmhaepaa
/- Rows of what is held (a ledger's number, ranges): what they read as, rows of the call's own of them. Written by wip/mk-held.py out of XIt. -/
namespace Go.Proofs.Ytghadpihmhaepaa
open Go.RowKit

/-- An entry's number, hels bytes, and where they lie. -/
structure Hx where
  t : Nat × List Rg := (0, [])
  a : Option Addr := none
  c : Nat := 0
instance : Inhabited Hx := ⟨{}⟩
def Hx.cells (x : Hx) : List Value := [.int .u64 (x.t.1 : Nat), .slice x.a x.t.2.length x.c]
def hxc (X : List Hx) : List Value := X.flatMap Hx.cells
theorem hxc_append (X Y : List Hx) : hxc (X ++ Y) = hxc X ++ hxc Y := by simp [hxc]
theorem hxc_cons (x : Hx) (X : List Hx) : hxc (x :: X) = x.cells ++ hxc X := rfl
theorem hxc_length (X : List Hx) : (hxc X).length = X.length * 2 := by
  induction X with
  | nil => rfl
  | cons x X ih => rw [hxc_cons, List.length_append, ih, List.length_cons]; simp [Hx.cells]; omega
theorem hxc_one (X : List Hx) : ∀ u ∈ hxc X, u.oneCell' = true := by
  intro u hu
  unfold hxc at hu
  simp only [List.mem_flatMap, Hx.cells] at hu
  obtain ⟨x, _, h⟩ := hu
  simp at h
  rcases h with h | h <;> subst h <;> rfl
theorem hxc_at (X : List Hx) : ∀ i, i < X.length → (hxc X)[i * 2]? = some (.int .u64 ((X.getD i default).t.1 : Nat)) ∧ (hxc X)[i * 2 + 1]? = some (.slice (X.getD i default).a (X.getD i default).t.2.length (X.getD i default).c) := by
  induction X with
  | nil => intro i hi; simp at hi
  | cons x X ih =>
    intro i hi
    have e : hxc (x :: X) = .int .u64 (x.t.1 : Nat) :: .slice x.a x.t.2.length x.c :: hxc X := rfl
    rw [e]
    rcases i with _ | i
    · exact ⟨rfl, rfl⟩
    · have := ih i (by simpa using hi)
      have h1 : (i + 1) * 2 = i * 2 + 1 + 1 := by omega
      rw [h1]
      simpa using this
theorem hxc_take (X : List Hx) (n : Nat) : hxc (X.take n) = (hxc X).take (n * 2) := by
  induction X generalizing n with
  | nil => simp [hxc]
  | cons x X ih =>
    rcases n with _ | n
    · simp [hxc]
    · rw [List.take_succ_cons, hxc_cons, hxc_cons, ih, show (n + 1) * 2 = x.cells.length + n * 2 by simp [Hx.cells]; omega, List.take_length_add_append]
theorem hxc_drop (X : List Hx) (n : Nat) : hxc (X.drop n) = (hxc X).drop (n * 2) := by
  induction X generalizing n with
  | nil => simp [hxc]
  | cons x X ih =>
    rcases n with _ | n
    · simp [hxc]
    · rw [List.drop_succ_cons, hxc_cons, ih, show (n + 1) * 2 = x.cells.length + n * 2 by simp [Hx.cells]; omega, ← List.drop_drop, List.drop_left' rfl]

/-- What an entry is known by: hels bytes, outside the blocks F; numbers that fit. -/
structure HxOk (w : World) (F : List Nat) (x : Hx) : Prop where
  rs : Rr w x.a x.t.2
  away : x.t.2 ≠ [] → ∀ q, x.a = some q → q.block ∉ F
  nil : x.a = none → x.c = 0
  num : x.t.1 < 18446744073709551616
  room : x.t.2.length ≤ x.c ∧ x.c ≤ 9223372036854775807
theorem HxOk.keep {w w' : World} {F F' S : List Nat} {x : Hx} (h : HxOk w F x) (hf : Frm S w w') (hS : ∀ x ∈ S, x ∈ F ∨ w.heap.size ≤ x) (hF : ∀ x ∈ F', x ∈ F ∨ w.heap.size ≤ x) : HxOk w' F' x := by
  refine ⟨h.rs.keep hf (fun h0 q hq hm => ?_), fun hne q hq hm => ?_, h.nil, h.num, h.room⟩
  · rcases hS _ hm with h1 | h1
    · exact h.away (List.length_pos_iff.1 h0) q hq h1
    · have := h.rs.lt h0 q hq; omega
  · rcases hF _ hm with h1 | h1
    · exact h.away hne q hq h1
    · have := h.rs.lt (List.length_pos_iff.2 hne) q hq; omega
def HxsOk (w : World) (F : List Nat) (X : List Hx) : Prop := ∀ x ∈ X, HxOk w F x
theorem HxsOk.keep {w w' : World} {F F' S : List Nat} {X : List Hx} (h : HxsOk w F X) (hf : Frm S w w') (hS : ∀ x ∈ S, x ∈ F ∨ w.heap.size ≤ x) (hF : ∀ x ∈ F', x ∈ F ∨ w.heap.size ≤ x) : HxsOk w' F' X := fun x hx => (h x hx).keep hf hS hF
theorem HxsOk.append {w : World} {F : List Nat} {X Y : List Hx} (h : HxsOk w F X) (k : HxsOk w F Y) : HxsOk w F (X ++ Y) := fun x hx => (List.mem_append.1 hx).elim (h x) (k x)
theorem HxsOk.sub {w : World} {F : List Nat} {X Y : List Hx} (h : HxsOk w F X) (hs : ∀ x ∈ Y, x ∈ X) : HxsOk w F Y := fun x hx => h x (hs x hx)
theorem HxsOk.nil (w : World) (F : List Nat) : HxsOk w F [] := fun x hx => by simp at hx

/-- A slice of entries, as it reads; neither it nor a value of it lies in the blocks F. -/
structure HxL (w : World) (F : List Nat) (a : Option Addr) (X : List Hx) : Prop where
  vals : ValsAt w a (hxc X)
  ok : HxsOk w F X
  away : X ≠ [] → ∀ q, a = some q → q.block ∉ F
theorem HxL.nil (w : World) (F : List Nat) (a : Option Addr) : HxL w F a [] := ⟨.inl rfl, HxsOk.nil _ _, fun h => absurd rfl h⟩
theorem hxc_ne {X : List Hx} (h : hxc X ≠ []) : X ≠ [] := by rintro rfl; exact h rfl
theorem hxc_ne' {X : List Hx} (h : X ≠ []) : hxc X ≠ [] := by
  intro e
  have := hxc_length X
  rw [e] at this
  have := List.length_pos_iff.2 h
  simp at *; omega
theorem HxL.keep {w w' : World} {F F' S : List Nat} {a : Option Addr} {X : List Hx} (h : HxL w F a X) (hf : Frm S w w') (hS : ∀ x ∈ S, x ∈ F ∨ w.heap.size ≤ x) (hF : ∀ x ∈ F', x ∈ F ∨ w.heap.size ≤ x) : HxL w' F' a X := by
  refine ⟨h.vals.keep hf (fun hne q hq hm => ?_), h.ok.keep hf hS hF, fun hne q hq hm => ?_⟩
  · rcases hS _ hm with h1 | h1
    · exact h.away (hxc_ne hne) q hq h1
    · have := vals_lt h.vals hne q hq; omega
  · rcases hF _ hm with h1 | h1
    · exact h.away hne q hq h1
    · have := vals_lt h.vals (hxc_ne' hne) q hq; omega
theorem HxL.at {w : World} {F : List Nat} {a : Option Addr} {X : List Hx} (h : HxL w F a X) {i : Nat} (hi : i < X.length) :
    ∃ b off, a = some ⟨b, off, none⟩ ∧ w.cell? ⟨b, off + i * 2, none⟩ = some (.int .u64 ((X.getD i default).t.1 : Nat)) ∧ w.cell? ⟨b, off + i * 2 + 1, none⟩ = some (.slice (X.getD i default).a (X.getD i default).t.2.length (X.getD i default).c) ∧ HxOk w F (X.getD i default) := by
  obtain ⟨h0, h1⟩ := hxc_at X i hi
  have hm : X.getD i default ∈ X := by simp [hi]
  rcases h.vals with h' | ⟨b, off, rfl, hc⟩
  · rw [h'] at h0; simp at h0
  · exact ⟨b, off, rfl, hc _ _ h0, by rw [Nat.add_assoc]; exact hc _ _ h1, h.ok _ hm⟩
theorem HxL.take {w : World} {F : List Nat} {a : Option Addr} {X : List Hx} (h : HxL w F a X) (n : Nat) : HxL w F a (X.take n) := by
  refine ⟨?_, h.ok.sub (fun x hx => List.mem_of_mem_take hx), fun hne => h.away (by rintro rfl; simp at hne)⟩
  rw [hxc_take]
  rcases h.vals with h' | ⟨b, off, rfl, hc⟩
  · exact .inl (by rw [h']; simp)
  · refine .inr ⟨b, off, rfl, fun i u hu => hc i u ?_⟩
    rw [List.getElem?_take] at hu
    split at hu
    · exact hu
    · cases hu
/-- A row of the call's own of entries. -/
structure HxOwn (w : World) (base : Nat) (e : TypeId) (F : List Nat) (a : Option Addr) (cap : Nat) (X : List Hx) : Prop where
  own : w.ownsRow base e 2 (.slice a X.length cap) X.length (hxc X)
  ok : HxsOk w (blk a ++ F) X
  away : ∀ g ∈ blk a, g ∉ F
section
variable {w w' : World} {base : Nat} {e : TypeId} {F F' S : List Nat} {a : Option Addr} {cap : Nat} {X : List Hx}
theorem HxOwn.nil (w : World) (base : Nat) (e : TypeId) (F : List Nat) : HxOwn w base e F none 0 [] := ⟨World.ownsRow_nil _ _ _ _, HxsOk.nil _ _, by simp⟩
theorem HxOwn.blk_lt (h : HxOwn w base e F a cap X) : ∀ g ∈ blk a, base ≤ g ∧ g < w.heap.size := fun g hg => World.ownsRow.lt h.own g (ownBlk.2 hg)
theorem HxOwn.keep (h : HxOwn w base e F a cap X) (hf : Frm S w w') (hS : ∀ x ∈ S, x ∈ F ∨ w.heap.size ≤ x) (hF : ∀ x ∈ F', x ∈ F ∨ w.heap.size ≤ x) : HxOwn w' base e F' a cap X := by
  have hb := h.blk_lt
  refine ⟨hf.own h.own (fun g hg hm => ?_), h.ok.keep hf (fun x hx => ?_) (fun x hx => ?_), fun g hg hm => ?_⟩
  · rcases hS g hm with h1 | h1
    · exact h.away g (ownBlk.1 hg) h1
    · have := (hb g (ownBlk.1 hg)).2; omega
  · rcases hS x hx with h1 | h1
    · exact .inl (by simp [h1])
    · exact .inr h1
  · rcases List.mem_append.1 hx with h1 | h1
    · exact .inl (by simp [h1])
    · rcases hF x h1 with h2 | h2
      · exact .inl (by simp [h2])
      · exact .inr h2
  · rcases hF g hm with h1 | h1
    · exact h.away g hg h1
    · have := (hb g hg).2; omega
theorem HxOwn.hl (h : HxOwn w base e F a cap X) : HxL w F a X := by
  refine ⟨?_, h.ok.keep (S := []) (Frm.refl _ _) (by simp) (fun x hx => .inl (by simp [hx])), fun _ q hq => h.away q.block (by rw [hq]; simp)⟩
  by_cases h0 : X = []
  · subst h0; exact .inl rfl
  · rcases h.own.2 with ⟨_, hl⟩ | ⟨g, c, cur, hv, _⟩
    · exact absurd (List.eq_nil_of_length_eq_zero hl) h0
    · simp only [Value.slice.injEq] at hv
      obtain ⟨rfl, _, rfl⟩ := hv
      refine .inr ⟨g, 0, rfl, fun i u hu => ?_⟩
      have hi : i < (hxc X).length := by
        rcases Nat.lt_or_ge i (hxc X).length with h' | h'
        · exact h'
        · rw [List.getElem?_eq_none h'] at hu; cases hu
      rw [hxc_length] at hi
      rw [Nat.zero_add, World.ownsRow.cellAt h.own i hi]
      exact hu
theorem HxOwn.caps (h : HxOwn w base e F a cap X) : X.length ≤ cap ∧ cap ≤ maxLen ∧ (a = none → cap = 0) := by
  rcases h.own.2 with ⟨hv, hl⟩ | ⟨g, c, cur, hv, _, _, h1, h2, _⟩
  · simp only [Value.slice.injEq] at hv
    rw [hl, hv.2.2]; exact ⟨Nat.le_refl _, Nat.zero_le _, fun _ => rfl⟩
  · simp only [Value.slice.injEq] at hv
    obtain ⟨rfl, _, rfl⟩ := hv
    exact ⟨h1, h2, fun h => by cases h⟩
/-- What is appended lies neither in the row's block nor in F. -/
theorem HxOwn.app {n m : Nat} {Y : List Hx} {a' : Option Addr} {cap' : Nat} (h : HxOwn w base e F a cap X) (hn : n = X.length) (k : HxsOk w (blk a ++ F) Y) (hm : m = Y.length) (hF : ∀ x ∈ F, x < w.heap.size)
    (ha : AppS w w' base e 2 (.slice a n cap) n m (hxc X) (hxc Y) a' cap') : HxOwn w' base e F a' cap' (X ++ Y) ∧ Frm (blk a) w w' ∧ (∀ g ∈ blk a', g ∈ blk a ∨ w.heap.size ≤ g) ∧ n + m = (X ++ Y).length := by
  subst hn; subst hm
  have hf : Frm (blk a) w w' := (Frm.refl _ _).grown ha.grown (fun g hg => .inl (ownBlk.1 hg))
  have hp : ∀ g ∈ blk a', g ∈ blk a ∨ w.heap.size ≤ g := by
    intro g hg
    have hg' : (Value.slice a' (X.length + Y.length) cap').ownBlock = some g := ownBlk.2 hg
    rcases ha.place with h1 | h1
    · exact .inl (ownBlk.1 (h1 ▸ hg'))
    · rw [hg'] at h1
      cases h1
      exact .inr (Nat.le_refl _)
  refine ⟨⟨?_, ?_, fun g hg hm => ?_⟩, hf, hp, by simp⟩
  · have := ha.own
    rwa [← hxc_append, ← List.length_append] at this
  · refine (h.ok.append k).keep hf (fun x hx => .inl (by simp [hx])) (fun x hx => ?_)
    rcases List.mem_append.1 hx with h1 | h1
    · rcases hp x h1 with h2 | h2
      · exact .inl (by simp [h2])
      · exact .inr h2
    · exact .inl (by simp [h1])
  · rcases hp g hg with h1 | h1
    · exact h.away g h1 hm
    · have := hF g hm; omega
end
/-- The entries alone. -/
def hels (X : List Hx) : List (Nat × List Rg) := X.map (·.t)
theorem hels_length (X : List Hx) : (hels X).length = X.length := by simp [hels]
end Go.Proofs.Ytghadpihmhaepaa
/- A row of the call's own, as it reads. It speaks of no program. -/
namespace Go.Proofs.Ytghadpihmhaepaa
open Go.RowKit

/-- A row of the call's own, as it reads. -/
theorem own_vals {w : World} {base : Nat} {e : TypeId} {sz n cap : Nat} {a : Option Addr} {xs : List Value} (h : w.ownsRow base e sz (.slice a n cap) n xs) : ValsAt w a xs := by
  rcases h.2 with ⟨_, hl⟩ | ⟨g, c, cur, hv, _⟩
  · left
    have := h.1
    rw [hl] at this
    exact List.eq_nil_of_length_eq_zero (by omega)
  · simp only [Value.slice.injEq] at hv
    obtain ⟨rfl, _, rfl⟩ := hv
    refine .inr ⟨g, 0, rfl, fun i u hu => ?_⟩
    have hi : i < xs.length := by
      rcases Nat.lt_or_ge i xs.length with h' | h'
      · exact h'
      · rw [List.getElem?_eq_none h'] at hu; cases hu
    rw [Nat.zero_add, World.ownsRow.cellAt h i (by rw [← h.1]; exact hi)]
    exact hu
end Go.Proofs.Ytghadpihmhaepaa
/- Lists of sessions (an Id, an end, a life): what they read as, rows of the call's own of them, pieces. They speak of no program. (For stage 7.) -/
namespace Go.Proofs.Ytghadpihmhaepaa
open Go.RowKit

/-- A session. -/
structure Sn where
  id : Nat := 0
  ends : Nat := 0
  life : Nat := 0
instance : Inhabited Sn := ⟨{}⟩
def Sn.cells (x : Sn) : List Value := [.int .u64 (x.id : Nat), .int .u64 (x.ends : Nat), .int .u64 (x.life : Nat)]
def Sn.val (x : Sn) : Value := .agg #[.int .u64 (x.id : Nat), .int .u64 (x.ends : Nat), .int .u64 (x.life : Nat)]
def Sn.fits (x : Sn) : Prop := x.id < 18446744073709551616 ∧ x.ends < 18446744073709551616 ∧ x.life < 18446744073709551616
def snc (X : List Sn) : List Value := X.flatMap Sn.cells
theorem snc_append (X Y : List Sn) : snc (X ++ Y) = snc X ++ snc Y := by simp [snc]
theorem snc_cons (x : Sn) (X : List Sn) : snc (x :: X) = x.cells ++ snc X := rfl
theorem snc_length (X : List Sn) : (snc X).length = X.length * 3 := by
  induction X with
  | nil => rfl
  | cons x X ih => rw [snc_cons, List.length_append, ih, List.length_cons]; simp [Sn.cells]; omega
theorem snc_at (X : List Sn) : ∀ i, i < X.length → (snc X)[i * 3]? = some (.int .u64 ((X.getD i default).id : Nat)) ∧ (snc X)[i * 3 + 1]? = some (.int .u64 ((X.getD i default).ends : Nat)) ∧ (snc X)[i * 3 + 2]? = some (.int .u64 ((X.getD i default).life : Nat)) := by
  induction X with
  | nil => intro i hi; simp at hi
  | cons x X ih =>
    intro i hi
    have e : snc (x :: X) = .int .u64 (x.id : Nat) :: .int .u64 (x.ends : Nat) :: .int .u64 (x.life : Nat) :: snc X := rfl
    rw [e]
    rcases i with _ | i
    · exact ⟨rfl, rfl, rfl⟩
    · have := ih i (by simpa using hi)
      have h1 : (i + 1) * 3 = i * 3 + 1 + 1 + 1 := by omega
      rw [h1]
      simpa using this
theorem snc_take (X : List Sn) (n : Nat) : snc (X.take n) = (snc X).take (n * 3) := by
  induction X generalizing n with
  | nil => simp [snc]
  | cons x X ih =>
    rcases n with _ | n
    · simp [snc]
    · rw [List.take_succ_cons, snc_cons, snc_cons, ih, show (n + 1) * 3 = x.cells.length + n * 3 by simp [Sn.cells]; omega, List.take_length_add_append]
theorem snc_drop (X : List Sn) (n : Nat) : snc (X.drop n) = (snc X).drop (n * 3) := by
  induction X generalizing n with
  | nil => simp [snc]
  | cons x X ih =>
    rcases n with _ | n
    · simp [snc]
    · rw [List.drop_succ_cons, snc_cons, ih, show (n + 1) * 3 = x.cells.length + n * 3 by simp [Sn.cells]; omega, ← List.drop_drop, List.drop_left' rfl]
theorem snc_ne {X : List Sn} (h : snc X ≠ []) : X ≠ [] := by rintro rfl; exact h rfl
theorem snc_ne' {X : List Sn} (h : X ≠ []) : snc X ≠ [] := by
  intro e
  have := snc_length X
  rw [e] at this
  have := List.length_pos_iff.2 h
  simp at *; omega

/-- A slice of sessions, as it reads; it lies outside the blocks F. -/
structure SL (w : World) (F : List Nat) (a : Option Addr) (X : List Sn) : Prop where
  vals : ValsAt w a (snc X)
  fits : ∀ x ∈ X, x.fits
  away : X ≠ [] → ∀ q, a = some q → q.block ∉ F
theorem SL.nil (w : World) (F : List Nat) (a : Option Addr) : SL w F a [] := ⟨.inl rfl, by simp, fun h => absurd rfl h⟩
theorem valsAt_lt {w : World} {a : Option Addr} {us : List Value} (h : ValsAt w a us) (hne : us ≠ []) : ∀ q, a = some q → q.block < w.heap.size := by
  intro q hq
  rcases h with h | ⟨b, off, rfl, hc⟩
  · exact absurd h hne
  · cases hq
    cases us with
    | nil => exact absurd rfl hne
    | cons v vs => exact block_lt_of_cell (a := ⟨b, off + 0, none⟩) (hc 0 v rfl)
theorem SL.keep {w w' : World} {F F' S : List Nat} {a : Option Addr} {X : List Sn} (h : SL w F a X) (hf : Frm S w w') (hS : ∀ x ∈ S, x ∈ F ∨ w.heap.size ≤ x) (hF : ∀ x ∈ F', x ∈ F ∨ w.heap.size ≤ x) : SL w' F' a X := by
  refine ⟨h.vals.keep hf (fun hne q hq hm => ?_), h.fits, fun hne q hq hm => ?_⟩
  · rcases hS _ hm with h1 | h1
    · exact h.away (snc_ne hne) q hq h1
    · have := valsAt_lt h.vals hne q hq; omega
  · rcases hF _ hm with h1 | h1
    · exact h.away hne q hq h1
    · have := valsAt_lt h.vals (snc_ne' hne) q hq; omega
theorem SL.at {w : World} {F : List Nat} {a : Option Addr} {X : List Sn} (h : SL w F a X) {i : Nat} (hi : i < X.length) :
    ∃ b off, a = some ⟨b, off, none⟩ ∧ w.cell? ⟨b, off + i * 3, none⟩ = some (.int .u64 ((X.getD i default).id : Nat)) ∧ w.cell? ⟨b, off + i * 3 + 1, none⟩ = some (.int .u64 ((X.getD i default).ends : Nat)) ∧
      w.cell? ⟨b, off + i * 3 + 2, none⟩ = some (.int .u64 ((X.getD i default).life : Nat)) ∧ (X.getD i default).fits := by
  obtain ⟨h0, h1, h2⟩ := snc_at X i hi
  have hm : X.getD i default ∈ X := by simp [hi]
  rcases h.vals with h' | ⟨b, off, rfl, hc⟩
  · rw [h'] at h0; simp at h0
  · exact ⟨b, off, rfl, hc _ _ h0, by rw [Nat.add_assoc]; exact hc _ _ h1, by rw [Nat.add_assoc]; exact hc _ _ h2, h.fits _ hm⟩
theorem SL.take {w : World} {F : List Nat} {a : Option Addr} {X : List Sn} (h : SL w F a X) (n : Nat) : SL w F a (X.take n) := by
  refine ⟨?_, fun x hx => h.fits x (List.mem_of_mem_take hx), fun hne => h.away (by rintro rfl; simp at hne)⟩
  rw [snc_take]
  rcases h.vals with h' | ⟨b, off, rfl, hc⟩
  · exact .inl (by rw [h']; simp)
  · refine .inr ⟨b, off, rfl, fun i u hu => hc i u ?_⟩
    rw [List.getElem?_take] at hu
    split at hu
    · exact hu
    · cases hu
/-- The address of what is left of a slice of elements of three cells each. -/
def cut3 (a : Option Addr) (cap lo : Nat) : Option Addr := if cap = lo then a else a.map (·.add (lo * 3))
theorem SL.drop {w : World} {F : List Nat} {a : Option Addr} {X : List Sn} {cap : Nat} (h : SL w F a X) (hc : X.length ≤ cap) (lo : Nat) : SL w F (cut3 a cap lo) (X.drop lo) := by
  unfold cut3
  by_cases hlo : cap = lo
  · rw [if_pos hlo, List.drop_eq_nil_of_le (by omega)]; exact SL.nil _ _ _
  · rw [if_neg hlo]
    refine ⟨?_, fun x hx => h.fits x (List.mem_of_mem_drop hx), fun hne q hq hm => ?_⟩
    · rw [snc_drop]
      rcases h.vals with h' | ⟨b, off, rfl, hcc⟩
      · exact .inl (by rw [h']; simp)
      · refine .inr ⟨b, off + lo * 3, by simp [addr_add], fun i u hu => ?_⟩
        rw [List.getElem?_drop] at hu
        rw [Nat.add_assoc]
        exact hcc _ _ hu
    · cases a with
      | none => cases hq
      | some y =>
        simp at hq
        subst hq
        exact h.away (by rintro rfl; simp at hne) y rfl (by unfold Addr.add at hm; split at hm <;> exact hm)
/-- A row of the call's own of sessions. -/
structure SOwn (w : World) (base : Nat) (e : TypeId) (F : List Nat) (a : Option Addr) (cap : Nat) (X : List Sn) : Prop where
  own : w.ownsRow base e 3 (.slice a X.length cap) X.length (snc X)
  fits : ∀ x ∈ X, x.fits
  away : ∀ g ∈ blk a, g ∉ F
section
variable {w w' : World} {base : Nat} {e : TypeId} {F F' S : List Nat} {a : Option Addr} {cap : Nat} {X : List Sn}
theorem SOwn.nil (w : World) (base : Nat) (e : TypeId) (F : List Nat) : SOwn w base e F none 0 [] := ⟨World.ownsRow_nil _ _ _ _, by simp, by simp⟩
theorem ownBlk3 {a : Option Addr} {n c g : Nat} : (Value.slice a n c).ownBlock = some g ↔ g ∈ blk a := by cases a <;> simp [Value.ownBlock, eq_comm]
theorem SOwn.blk_lt (h : SOwn w base e F a cap X) : ∀ g ∈ blk a, base ≤ g ∧ g < w.heap.size := fun g hg => World.ownsRow.lt h.own g (ownBlk3.2 hg)
theorem SOwn.keep (h : SOwn w base e F a cap X) (hf : Frm S w w') (hS : ∀ x ∈ S, x ∈ F ∨ w.heap.size ≤ x) (hF : ∀ x ∈ F', x ∈ F ∨ w.heap.size ≤ x) : SOwn w' base e F' a cap X := by
  have hb := h.blk_lt
  refine ⟨hf.own h.own (fun g hg hm => ?_), h.fits, fun g hg hm => ?_⟩
  · rcases hS g hm with h1 | h1
    · exact h.away g (ownBlk3.1 hg) h1
    · have := (hb g (ownBlk3.1 hg)).2; omega
  · rcases hF g hm with h1 | h1
    · exact h.away g hg h1
    · have := (hb g hg).2; omega
theorem SOwn.sl (h : SOwn w base e F a cap X) : SL w F a X := ⟨own_vals h.own, h.fits, fun _ q hq => h.away q.block (by rw [hq]; simp)⟩
theorem SOwn.caps (h : SOwn w base e F a cap X) : X.length ≤ cap ∧ cap ≤ maxLen ∧ (a = none → cap = 0) := by
  rcases h.own.2 with ⟨hv, hl⟩ | ⟨g, c, cur, hv, _, _, h1, h2, _⟩
  · simp only [Value.slice.injEq] at hv
    rw [hl, hv.2.2]; exact ⟨Nat.le_refl _, Nat.zero_le _, fun _ => rfl⟩
  · simp only [Value.slice.injEq] at hv
    obtain ⟨rfl, _, rfl⟩ := hv
    exact ⟨h1, h2, fun h => by cases h⟩
/-- What is appended. -/
theorem SOwn.app {n m : Nat} {Y : List Sn} {a' : Option Addr} {cap' : Nat} (h : SOwn w base e F a cap X) (hn : n = X.length) (k : ∀ y ∈ Y, y.fits) (hm : m = Y.length) (hF : ∀ x ∈ F, x < w.heap.size)
    (ha : AppS w w' base e 3 (.slice a n cap) n m (snc X) (snc Y) a' cap') : SOwn w' base e F a' cap' (X ++ Y) ∧ Frm (blk a) w w' ∧ (∀ g ∈ blk a', g ∈ blk a ∨ w.heap.size ≤ g) ∧ n + m = (X ++ Y).length := by
  subst hn; subst hm
  have hf : Frm (blk a) w w' := (Frm.refl _ _).grown ha.grown (fun g hg => .inl (ownBlk3.1 hg))
  have hp : ∀ g ∈ blk a', g ∈ blk a ∨ w.heap.size ≤ g := by
    intro g hg
    have hg' : (Value.slice a' (X.length + Y.length) cap').ownBlock = some g := ownBlk3.2 hg
    rcases ha.place with h1 | h1
    · exact .inl (ownBlk3.1 (h1 ▸ hg'))
    · rw [hg'] at h1
      cases h1
      exact .inr (Nat.le_refl _)
  refine ⟨⟨?_, fun x hx => (List.mem_append.1 hx).elim (h.fits x) (k x), fun g hg hm => ?_⟩, hf, hp, by simp⟩
  · have := ha.own
    rwa [← snc_append, ← List.length_append] at this
  · rcases hp g hg with h1 | h1
    · exact h.away g h1 hm
    · have := hF g hm; omega
end
section
variable {P : Program} {t e : TypeId}
end
/-- The document's Book in plain words: at most 2^64 - 1; a session's place. -/
def sumU (a b : Nat) : Nat := if a + b < 18446744073709551616 then a + b else 18446744073709551615
def atS (X : List Sn) (id : Nat) : Nat := X.findIdx (fun x => decide (x.id = id))
end Go.Proofs.Ytghadpihmhaepaa
/- Rows of Ld: what they read as, rows of the call's own of them, pieces. They speak of no program. -/
namespace Go.Proofs.Ytghadpihmhaepaa
open Go.RowKit

/-- One. -/
structure Ld where
  id : Nat := 0
  cl : Bool := false
  n : Nat := 0
deriving DecidableEq
instance : Inhabited Ld := ⟨{}⟩
def Ld.cells (x : Ld) : List Value := [.int .u64 (x.id : Nat), .bool x.cl, .int .u64 (x.n : Nat)]
def Ld.val (x : Ld) : Value := .agg #[.int .u64 (x.id : Nat), .bool x.cl, .int .u64 (x.n : Nat)]
def Ld.fits (x : Ld) : Prop := x.id < 18446744073709551616 ∧ x.n < 18446744073709551616
def ldc (X : List Ld) : List Value := X.flatMap Ld.cells
theorem ldc_append (X Y : List Ld) : ldc (X ++ Y) = ldc X ++ ldc Y := by simp [ldc]
theorem ldc_cons (x : Ld) (X : List Ld) : ldc (x :: X) = x.cells ++ ldc X := rfl
theorem ldc_length (X : List Ld) : (ldc X).length = X.length * 3 := by
  induction X with
  | nil => rfl
  | cons x X ih => rw [ldc_cons, List.length_append, ih, List.length_cons]; simp [Ld.cells]; omega
theorem ldc_at (X : List Ld) : ∀ i, i < X.length → (ldc X)[i * 3]? = some (.int .u64 ((X.getD i default).id : Nat)) ∧ (ldc X)[i * 3 + 1]? = some (.bool (X.getD i default).cl) ∧ (ldc X)[i * 3 + 2]? = some (.int .u64 ((X.getD i default).n : Nat)) := by
  induction X with
  | nil => intro i hi; simp at hi
  | cons x X ih =>
    intro i hi
    have e : ldc (x :: X) = .int .u64 (x.id : Nat) :: .bool x.cl :: .int .u64 (x.n : Nat) :: ldc X := rfl
    rw [e]
    rcases i with _ | i
    · exact ⟨rfl, rfl, rfl⟩
    · have := ih i (by simpa using hi)
      have h1 : (i + 1) * 3 = i * 3 + 1 + 1 + 1 := by omega
      rw [h1]
      simpa using this
theorem ldc_take (X : List Ld) (n : Nat) : ldc (X.take n) = (ldc X).take (n * 3) := by
  induction X generalizing n with
  | nil => simp [ldc]
  | cons x X ih =>
    rcases n with _ | n
    · simp [ldc]
    · rw [List.take_succ_cons, ldc_cons, ldc_cons, ih, show (n + 1) * 3 = x.cells.length + n * 3 by simp [Ld.cells]; omega, List.take_length_add_append]
theorem ldc_drop (X : List Ld) (n : Nat) : ldc (X.drop n) = (ldc X).drop (n * 3) := by
  induction X generalizing n with
  | nil => simp [ldc]
  | cons x X ih =>
    rcases n with _ | n
    · simp [ldc]
    · rw [List.drop_succ_cons, ldc_cons, ih, show (n + 1) * 3 = x.cells.length + n * 3 by simp [Ld.cells]; omega, ← List.drop_drop, List.drop_left' rfl]
theorem ldc_ne {X : List Ld} (h : ldc X ≠ []) : X ≠ [] := by rintro rfl; exact h rfl
theorem ldc_ne' {X : List Ld} (h : X ≠ []) : ldc X ≠ [] := by
  intro e
  have := ldc_length X
  rw [e] at this
  have := List.length_pos_iff.2 h
  simp at *; omega

/-- A slice of sessions, as it reads; it lies outside the blocks F. -/
structure LdL (w : World) (F : List Nat) (a : Option Addr) (X : List Ld) : Prop where
  vals : ValsAt w a (ldc X)
  fits : ∀ x ∈ X, x.fits
  away : X ≠ [] → ∀ q, a = some q → q.block ∉ F
theorem LdL.nil (w : World) (F : List Nat) (a : Option Addr) : LdL w F a [] := ⟨.inl rfl, by simp, fun h => absurd rfl h⟩
theorem LdL.keep {w w' : World} {F F' S : List Nat} {a : Option Addr} {X : List Ld} (h : LdL w F a X) (hf : Frm S w w') (hS : ∀ x ∈ S, x ∈ F ∨ w.heap.size ≤ x) (hF : ∀ x ∈ F', x ∈ F ∨ w.heap.size ≤ x) : LdL w' F' a X := by
  refine ⟨h.vals.keep hf (fun hne q hq hm => ?_), h.fits, fun hne q hq hm => ?_⟩
  · rcases hS _ hm with h1 | h1
    · exact h.away (ldc_ne hne) q hq h1
    · have := valsAt_lt h.vals hne q hq; omega
  · rcases hF _ hm with h1 | h1
    · exact h.away hne q hq h1
    · have := valsAt_lt h.vals (ldc_ne' hne) q hq; omega
theorem LdL.at {w : World} {F : List Nat} {a : Option Addr} {X : List Ld} (h : LdL w F a X) {i : Nat} (hi : i < X.length) :
    ∃ b off, a = some ⟨b, off, none⟩ ∧ w.cell? ⟨b, off + i * 3, none⟩ = some (.int .u64 ((X.getD i default).id : Nat)) ∧ w.cell? ⟨b, off + i * 3 + 1, none⟩ = some (.bool (X.getD i default).cl) ∧ w.cell? ⟨b, off + i * 3 + 2, none⟩ = some (.int .u64 ((X.getD i default).n : Nat)) ∧ (X.getD i default).fits := by
  obtain ⟨h0, h1, h2⟩ := ldc_at X i hi
  have hm : X.getD i default ∈ X := by simp [hi]
  rcases h.vals with h' | ⟨b, off, rfl, hc⟩
  · rw [h'] at h0; simp at h0
  · exact ⟨b, off, rfl, hc _ _ h0, by rw [Nat.add_assoc]; exact hc _ _ h1, by rw [Nat.add_assoc]; exact hc _ _ h2, h.fits _ hm⟩
theorem LdL.take {w : World} {F : List Nat} {a : Option Addr} {X : List Ld} (h : LdL w F a X) (n : Nat) : LdL w F a (X.take n) := by
  refine ⟨?_, fun x hx => h.fits x (List.mem_of_mem_take hx), fun hne => h.away (by rintro rfl; simp at hne)⟩
  rw [ldc_take]
  rcases h.vals with h' | ⟨b, off, rfl, hc⟩
  · exact .inl (by rw [h']; simp)
  · refine .inr ⟨b, off, rfl, fun i u hu => hc i u ?_⟩
    rw [List.getElem?_take] at hu
    split at hu
    · exact hu
    · cases hu
theorem LdL.drop {w : World} {F : List Nat} {a : Option Addr} {X : List Ld} {cap : Nat} (h : LdL w F a X) (hc : X.length ≤ cap) (lo : Nat) : LdL w F (cut3 a cap lo) (X.drop lo) := by
  unfold cut3
  by_cases hlo : cap = lo
  · rw [if_pos hlo, List.drop_eq_nil_of_le (by omega)]; exact LdL.nil _ _ _
  · rw [if_neg hlo]
    refine ⟨?_, fun x hx => h.fits x (List.mem_of_mem_drop hx), fun hne q hq hm => ?_⟩
    · rw [ldc_drop]
      rcases h.vals with h' | ⟨b, off, rfl, hcc⟩
      · exact .inl (by rw [h']; simp)
      · refine .inr ⟨b, off + lo * 3, by simp [addr_add], fun i u hu => ?_⟩
        rw [List.getElem?_drop] at hu
        rw [Nat.add_assoc]
        exact hcc _ _ hu
    · cases a with
      | none => cases hq
      | some y =>
        simp at hq
        subst hq
        exact h.away (by rintro rfl; simp at hne) y rfl (by unfold Addr.add at hm; split at hm <;> exact hm)
/-- A row of the call's own of sessions. -/
structure LdOwn (w : World) (base : Nat) (e : TypeId) (F : List Nat) (a : Option Addr) (cap : Nat) (X : List Ld) : Prop where
  own : w.ownsRow base e 3 (.slice a X.length cap) X.length (ldc X)
  fits : ∀ x ∈ X, x.fits
  away : ∀ g ∈ blk a, g ∉ F
section
variable {w w' : World} {base : Nat} {e : TypeId} {F F' S : List Nat} {a : Option Addr} {cap : Nat} {X : List Ld}
theorem LdOwn.nil (w : World) (base : Nat) (e : TypeId) (F : List Nat) : LdOwn w base e F none 0 [] := ⟨World.ownsRow_nil _ _ _ _, by simp, by simp⟩
theorem LdOwn.blk_lt (h : LdOwn w base e F a cap X) : ∀ g ∈ blk a, base ≤ g ∧ g < w.heap.size := fun g hg => World.ownsRow.lt h.own g (ownBlk3.2 hg)
theorem LdOwn.keep (h : LdOwn w base e F a cap X) (hf : Frm S w w') (hS : ∀ x ∈ S, x ∈ F ∨ w.heap.size ≤ x) (hF : ∀ x ∈ F', x ∈ F ∨ w.heap.size ≤ x) : LdOwn w' base e F' a cap X := by
  have hb := h.blk_lt
  refine ⟨hf.own h.own (fun g hg hm => ?_), h.fits, fun g hg hm => ?_⟩
  · rcases hS g hm with h1 | h1
    · exact h.away g (ownBlk3.1 hg) h1
    · have := (hb g (ownBlk3.1 hg)).2; omega
  · rcases hF g hm with h1 | h1
    · exact h.away g hg h1
    · have := (hb g hg).2; omega
theorem LdOwn.sl (h : LdOwn w base e F a cap X) : LdL w F a X := ⟨own_vals h.own, h.fits, fun _ q hq => h.away q.block (by rw [hq]; simp)⟩
theorem LdOwn.caps (h : LdOwn w base e F a cap X) : X.length ≤ cap ∧ cap ≤ maxLen ∧ (a = none → cap = 0) := by
  rcases h.own.2 with ⟨hv, hl⟩ | ⟨g, c, cur, hv, _, _, h1, h2, _⟩
  · simp only [Value.slice.injEq] at hv
    rw [hl, hv.2.2]; exact ⟨Nat.le_refl _, Nat.zero_le _, fun _ => rfl⟩
  · simp only [Value.slice.injEq] at hv
    obtain ⟨rfl, _, rfl⟩ := hv
    exact ⟨h1, h2, fun h => by cases h⟩
/-- What is appended. -/
theorem LdOwn.app {n m : Nat} {Y : List Ld} {a' : Option Addr} {cap' : Nat} (h : LdOwn w base e F a cap X) (hn : n = X.length) (k : ∀ y ∈ Y, y.fits) (hm : m = Y.length) (hF : ∀ x ∈ F, x < w.heap.size)
    (ha : AppS w w' base e 3 (.slice a n cap) n m (ldc X) (ldc Y) a' cap') : LdOwn w' base e F a' cap' (X ++ Y) ∧ Frm (blk a) w w' ∧ (∀ g ∈ blk a', g ∈ blk a ∨ w.heap.size ≤ g) ∧ n + m = (X ++ Y).length := by
  subst hn; subst hm
  have hf : Frm (blk a) w w' := (Frm.refl _ _).grown ha.grown (fun g hg => .inl (ownBlk3.1 hg))
  have hp : ∀ g ∈ blk a', g ∈ blk a ∨ w.heap.size ≤ g := by
    intro g hg
    have hg' : (Value.slice a' (X.length + Y.length) cap').ownBlock = some g := ownBlk3.2 hg
    rcases ha.place with h1 | h1
    · exact .inl (ownBlk3.1 (h1 ▸ hg'))
    · rw [hg'] at h1
      cases h1
      exact .inr (Nat.le_refl _)
  refine ⟨⟨?_, fun x hx => (List.mem_append.1 hx).elim (h.fits x) (k x), fun g hg hm => ?_⟩, hf, hp, by simp⟩
  · have := ha.own
    rwa [← ldc_append, ← List.length_append] at this
  · rcases hp g hg with h1 | h1
    · exact h.away g h1 hm
    · have := hF g hm; omega
end
theorem LdL.sub {w : World} {F : List Nat} {a : Option Addr} {X : List Ld} (h : LdL w F a X) {w' : World} (hf : Frm [] w w') : LdL w' F a X := h.keep hf (by simp) (fun x hx => .inl hx)
end Go.Proofs.Ytghadpihmhaepaa
/- Rows of Ps: what they read as, rows of the call's own of them, pieces. They speak of no program. -/
namespace Go.Proofs.Ytghadpihmhaepaa
open Go.RowKit

/-- One. -/
structure Ps where
  l : Nat := 0
  e : Nat := 0
deriving DecidableEq
instance : Inhabited Ps := ⟨{}⟩
def Ps.cells (x : Ps) : List Value := [.int .u64 (x.l : Nat), .int .u64 (x.e : Nat)]
def Ps.val (x : Ps) : Value := .agg #[.int .u64 (x.l : Nat), .int .u64 (x.e : Nat)]
def Ps.fits (x : Ps) : Prop := x.l < 18446744073709551616 ∧ x.e < 18446744073709551616
def psc (X : List Ps) : List Value := X.flatMap Ps.cells
theorem psc_append (X Y : List Ps) : psc (X ++ Y) = psc X ++ psc Y := by simp [psc]
theorem psc_cons (x : Ps) (X : List Ps) : psc (x :: X) = x.cells ++ psc X := rfl
theorem psc_length (X : List Ps) : (psc X).length = X.length * 2 := by
  induction X with
  | nil => rfl
  | cons x X ih => rw [psc_cons, List.length_append, ih, List.length_cons]; simp [Ps.cells]; omega
theorem psc_at (X : List Ps) : ∀ i, i < X.length → (psc X)[i * 2]? = some (.int .u64 ((X.getD i default).l : Nat)) ∧ (psc X)[i * 2 + 1]? = some (.int .u64 ((X.getD i default).e : Nat)) := by
  induction X with
  | nil => intro i hi; simp at hi
  | cons x X ih =>
    intro i hi
    have e : psc (x :: X) = .int .u64 (x.l : Nat) :: .int .u64 (x.e : Nat) :: psc X := rfl
    rw [e]
    rcases i with _ | i
    · exact ⟨rfl, rfl⟩
    · have := ih i (by simpa using hi)
      have h1 : (i + 1) * 2 = i * 2 + 1 + 1 := by omega
      rw [h1]
      simpa using this
theorem psc_take (X : List Ps) (n : Nat) : psc (X.take n) = (psc X).take (n * 2) := by
  induction X generalizing n with
  | nil => simp [psc]
  | cons x X ih =>
    rcases n with _ | n
    · simp [psc]
    · rw [List.take_succ_cons, psc_cons, psc_cons, ih, show (n + 1) * 2 = x.cells.length + n * 2 by simp [Ps.cells]; omega, List.take_length_add_append]
theorem psc_ne {X : List Ps} (h : psc X ≠ []) : X ≠ [] := by rintro rfl; exact h rfl
theorem psc_ne' {X : List Ps} (h : X ≠ []) : psc X ≠ [] := by
  intro e
  have := psc_length X
  rw [e] at this
  have := List.length_pos_iff.2 h
  simp at *; omega

/-- A slice of sessions, as it reads; it lies outside the blocks F. -/
structure PsL (w : World) (F : List Nat) (a : Option Addr) (X : List Ps) : Prop where
  vals : ValsAt w a (psc X)
  fits : ∀ x ∈ X, x.fits
  away : X ≠ [] → ∀ q, a = some q → q.block ∉ F
theorem PsL.nil (w : World) (F : List Nat) (a : Option Addr) : PsL w F a [] := ⟨.inl rfl, by simp, fun h => absurd rfl h⟩
theorem PsL.keep {w w' : World} {F F' S : List Nat} {a : Option Addr} {X : List Ps} (h : PsL w F a X) (hf : Frm S w w') (hS : ∀ x ∈ S, x ∈ F ∨ w.heap.size ≤ x) (hF : ∀ x ∈ F', x ∈ F ∨ w.heap.size ≤ x) : PsL w' F' a X := by
  refine ⟨h.vals.keep hf (fun hne q hq hm => ?_), h.fits, fun hne q hq hm => ?_⟩
  · rcases hS _ hm with h1 | h1
    · exact h.away (psc_ne hne) q hq h1
    · have := valsAt_lt h.vals hne q hq; omega
  · rcases hF _ hm with h1 | h1
    · exact h.away hne q hq h1
    · have := valsAt_lt h.vals (psc_ne' hne) q hq; omega
theorem PsL.at {w : World} {F : List Nat} {a : Option Addr} {X : List Ps} (h : PsL w F a X) {i : Nat} (hi : i < X.length) :
    ∃ b off, a = some ⟨b, off, none⟩ ∧ w.cell? ⟨b, off + i * 2, none⟩ = some (.int .u64 ((X.getD i default).l : Nat)) ∧ w.cell? ⟨b, off + i * 2 + 1, none⟩ = some (.int .u64 ((X.getD i default).e : Nat)) ∧ (X.getD i default).fits := by
  obtain ⟨h0, h1⟩ := psc_at X i hi
  have hm : X.getD i default ∈ X := by simp [hi]
  rcases h.vals with h' | ⟨b, off, rfl, hc⟩
  · rw [h'] at h0; simp at h0
  · exact ⟨b, off, rfl, hc _ _ h0, by rw [Nat.add_assoc]; exact hc _ _ h1, h.fits _ hm⟩
theorem PsL.take {w : World} {F : List Nat} {a : Option Addr} {X : List Ps} (h : PsL w F a X) (n : Nat) : PsL w F a (X.take n) := by
  refine ⟨?_, fun x hx => h.fits x (List.mem_of_mem_take hx), fun hne => h.away (by rintro rfl; simp at hne)⟩
  rw [psc_take]
  rcases h.vals with h' | ⟨b, off, rfl, hc⟩
  · exact .inl (by rw [h']; simp)
  · refine .inr ⟨b, off, rfl, fun i u hu => hc i u ?_⟩
    rw [List.getElem?_take] at hu
    split at hu
    · exact hu
    · cases hu
/-- A row of the call's own of sessions. -/
structure PsOwn (w : World) (base : Nat) (e : TypeId) (F : List Nat) (a : Option Addr) (cap : Nat) (X : List Ps) : Prop where
  own : w.ownsRow base e 2 (.slice a X.length cap) X.length (psc X)
  fits : ∀ x ∈ X, x.fits
  away : ∀ g ∈ blk a, g ∉ F
section
variable {w w' : World} {base : Nat} {e : TypeId} {F F' S : List Nat} {a : Option Addr} {cap : Nat} {X : List Ps}
theorem PsOwn.nil (w : World) (base : Nat) (e : TypeId) (F : List Nat) : PsOwn w base e F none 0 [] := ⟨World.ownsRow_nil _ _ _ _, by simp, by simp⟩
theorem PsOwn.blk_lt (h : PsOwn w base e F a cap X) : ∀ g ∈ blk a, base ≤ g ∧ g < w.heap.size := fun g hg => World.ownsRow.lt h.own g (ownBlk3.2 hg)
theorem PsOwn.keep (h : PsOwn w base e F a cap X) (hf : Frm S w w') (hS : ∀ x ∈ S, x ∈ F ∨ w.heap.size ≤ x) (hF : ∀ x ∈ F', x ∈ F ∨ w.heap.size ≤ x) : PsOwn w' base e F' a cap X := by
  have hb := h.blk_lt
  refine ⟨hf.own h.own (fun g hg hm => ?_), h.fits, fun g hg hm => ?_⟩
  · rcases hS g hm with h1 | h1
    · exact h.away g (ownBlk3.1 hg) h1
    · have := (hb g (ownBlk3.1 hg)).2; omega
  · rcases hF g hm with h1 | h1
    · exact h.away g hg h1
    · have := (hb g hg).2; omega
theorem PsOwn.sl (h : PsOwn w base e F a cap X) : PsL w F a X := ⟨own_vals h.own, h.fits, fun _ q hq => h.away q.block (by rw [hq]; simp)⟩
theorem PsOwn.caps (h : PsOwn w base e F a cap X) : X.length ≤ cap ∧ cap ≤ maxLen ∧ (a = none → cap = 0) := by
  rcases h.own.2 with ⟨hv, hl⟩ | ⟨g, c, cur, hv, _, _, h1, h2, _⟩
  · simp only [Value.slice.injEq] at hv
    rw [hl, hv.2.2]; exact ⟨Nat.le_refl _, Nat.zero_le _, fun _ => rfl⟩
  · simp only [Value.slice.injEq] at hv
    obtain ⟨rfl, _, rfl⟩ := hv
    exact ⟨h1, h2, fun h => by cases h⟩
/-- What is appended. -/
theorem PsOwn.app {n m : Nat} {Y : List Ps} {a' : Option Addr} {cap' : Nat} (h : PsOwn w base e F a cap X) (hn : n = X.length) (k : ∀ y ∈ Y, y.fits) (hm : m = Y.length) (hF : ∀ x ∈ F, x < w.heap.size)
    (ha : AppS w w' base e 2 (.slice a n cap) n m (psc X) (psc Y) a' cap') : PsOwn w' base e F a' cap' (X ++ Y) ∧ Frm (blk a) w w' ∧ (∀ g ∈ blk a', g ∈ blk a ∨ w.heap.size ≤ g) ∧ n + m = (X ++ Y).length := by
  subst hn; subst hm
  have hf : Frm (blk a) w w' := (Frm.refl _ _).grown ha.grown (fun g hg => .inl (ownBlk3.1 hg))
  have hp : ∀ g ∈ blk a', g ∈ blk a ∨ w.heap.size ≤ g := by
    intro g hg
    have hg' : (Value.slice a' (X.length + Y.length) cap').ownBlock = some g := ownBlk3.2 hg
    rcases ha.place with h1 | h1
    · exact .inl (ownBlk3.1 (h1 ▸ hg'))
    · rw [hg'] at h1
      cases h1
      exact .inr (Nat.le_refl _)
  refine ⟨⟨?_, fun x hx => (List.mem_append.1 hx).elim (h.fits x) (k x), fun g hg hm => ?_⟩, hf, hp, by simp⟩
  · have := ha.own
    rwa [← psc_append, ← List.length_append] at this
  · rcases hp g hg with h1 | h1
    · exact h.away g h1 hm
    · have := hF g hm; omega
end
theorem PsL.sub {w : World} {F : List Nat} {a : Option Addr} {X : List Ps} (h : PsL w F a X) {w' : World} (hf : Frm [] w w') : PsL w' F a X := h.keep hf (by simp) (fun x hx => .inl hx)
end Go.Proofs.Ytghadpihmhaepaa
/- Ledgers in a row, as plain data: right ones, how many entries are ahead of a place, all places, the first one from a place on, between two, trimmed. It speaks of no program. -/
namespace Go.Proofs.Ytghadpihmhaepaa
open Go.RowKit

/-- How many entries it has. -/
def Ld.size (x : Ld) (o : Nat) : Nat := if x.cl then x.n else o
/-- a ahead of b. -/
def Ps.lt (a b : Ps) : Prop := a.l < b.l ∨ a.l = b.l ∧ a.e < b.e
instance (a b : Ps) : Decidable (a.lt b) := inferInstanceAs (Decidable (_ ∨ _))
/-- Order's answer. -/
def ordP (a b : Ps) : Int := if a.lt b then -1 else if b.lt a then 1 else 0
theorem ordP_neg {a b : Ps} : ordP a b < 0 ↔ a.lt b := by
  unfold ordP
  split
  · simp_all
  · split <;> simp_all
theorem Ps.lt_trans {a b c : Ps} (h : a.lt b) (k : b.lt c) : a.lt c := by unfold Ps.lt at *; omega
theorem Ps.lt_irrefl (a : Ps) : ¬ a.lt a := by unfold Ps.lt; omega
theorem Ps.ext' {a b : Ps} (h : a.l = b.l) (k : a.e = b.e) : a = b := by cases a; cases b; simp_all
/-- How many of its entries are ahead of a place. -/
def Ld.ahead (x : Ld) (o : Nat) (p : Ps) : Nat := if x.id < p.l then x.size o else if x.id = p.l then min (x.size o) p.e else 0
/-- An entry of it is ahead of a place just if its number is below that. -/
theorem Ld.lt_ahead (x : Ld) (o : Nat) (p : Ps) {k : Nat} (hk : k < x.size o) : k < x.ahead o p ↔ (Ps.mk x.id k).lt p := by
  unfold Ld.ahead Ps.lt
  simp only
  split
  · exact ⟨fun _ => .inl ‹_›, fun _ => hk⟩
  · split
    · constructor
      · intro h; right; omega
      · intro h; omega
    · constructor
      · intro h; omega
      · intro h; omega

/-- Right ledgers. -/
def RtTo9 (X : List Ld) (k : Nat) : Prop := ∀ i, i < k → (X.getD i default).id ≠ 0 ∧ (X.getD i default).n ≤ 1048576 ∧ (0 < i → (X.getD (i - 1) default).id < (X.getD i default).id) ∧ ((X.getD i default).cl = false → i + 1 = X.length ∧ (X.getD i default).n = 0)
def RtLd (X : List Ld) : Prop := X.length ≤ 64 ∧ RtTo9 X X.length
/-- One after the other. -/
theorem RtTo9.next {X : List Ld} {k : Nat} (h : RtTo9 X k) (h1 : (X.getD k default).id ≠ 0) (h2 : (X.getD k default).n ≤ 1048576) (h3 : 0 < k → (X.getD (k - 1) default).id < (X.getD k default).id) (h4 : (X.getD k default).cl = false → k + 1 = X.length ∧ (X.getD k default).n = 0) : RtTo9 X (k + 1) := by
  intro i hi
  rcases Nat.lt_or_eq_of_le (Nat.le_of_lt_succ hi) with h5 | rfl
  · exact h i h5
  · exact ⟨h1, h2, h3, h4⟩
theorem RtLd.rise {X : List Ld} (h : RtLd X) {i j : Nat} (hij : i < j) (hj : j < X.length) : (X.getD i default).id < (X.getD j default).id := by
  induction j with
  | zero => omega
  | succ j ih =>
    have h1 := (h.2 (j + 1) hj).2.2.1 (by omega)
    rw [Nat.add_sub_cancel] at h1
    rcases Nat.lt_or_eq_of_le (Nat.le_of_lt_succ hij) with h2 | rfl
    · exact Nat.lt_trans (ih h2 (by omega)) h1
    · exact h1

/-- Between two places. -/
def btw (X : List Ld) (o : Nat) (a b : Ps) : Nat := (X.map fun x => x.ahead o b - x.ahead o a).sum
def tot (X : List Ld) (o : Nat) : Nat := (X.map fun x => x.size o).sum
theorem tot_append (X Y : List Ld) (o : Nat) : tot (X ++ Y) o = tot X o + tot Y o := by unfold tot; rw [List.map_append, List.sum_append_nat]
theorem tot_take {X : List Ld} {k : Nat} (o : Nat) (hk : k < X.length) : tot (X.take (k + 1)) o = tot (X.take k) o + (X.getD k default).size o := by
  have e : X.getD k default = X[k] := by simp [hk]
  rw [e, List.take_succ_eq_append_getElem hk, tot_append]
  simp [tot]
/-- The first entry from a place on. -/
def nextP (X : List Ld) (o : Nat) (p : Ps) : Option Ps := match X with
  | [] => none
  | x :: X => if x.ahead o p < x.size o then some ⟨x.id, x.ahead o p⟩ else nextP X o p
/-- Behind all. -/
def endP (X : List Ld) (o : Nat) : Ps := match X.getLast? with
  | none => ⟨0, 0⟩
  | some x => ⟨x.id, x.size o⟩
/-- What Next answers. -/
def nextV (X : List Ld) (o : Nat) (p : Ps) : Ps × Bool := match nextP X o p with
  | some q => (q, true)
  | none => (endP X o, false)
theorem nextP_at {X : List Ld} {o : Nat} {p : Ps} {k : Nat} (hk : k < X.length) (h : ∀ i, i < k → ¬ (X.getD i default).ahead o p < (X.getD i default).size o) (h1 : (X.getD k default).ahead o p < (X.getD k default).size o) :
    nextP X o p = some ⟨(X.getD k default).id, (X.getD k default).ahead o p⟩ := by
  induction X generalizing k with
  | nil => simp at hk
  | cons x X ih =>
    unfold nextP
    rcases k with _ | k
    · simp only [List.getD_cons_zero] at h1 ⊢
      rw [if_pos h1]
    · rw [if_neg (by have := h 0 (by omega); simpa using this)]
      simp only [List.getD_cons_succ] at h1 ⊢
      exact ih (by simpa using hk) (fun i hi => by have := h (i + 1) (by omega); simpa using this) h1
theorem nextP_none {X : List Ld} {o : Nat} {p : Ps} (h : ∀ i, i < X.length → ¬ (X.getD i default).ahead o p < (X.getD i default).size o) : nextP X o p = none := by
  induction X with
  | nil => rfl
  | cons x X ih =>
    unfold nextP
    rw [if_neg (by have := h 0 (by simp); simpa using this)]
    exact ih (fun i hi => by have := h (i + 1) (by simpa using hi); simpa using this)
theorem nextP_some {X : List Ld} {o : Nat} {p q : Ps} (h : nextP X o p = some q) : ∃ k, k < X.length ∧ (∀ i, i < k → ¬ (X.getD i default).ahead o p < (X.getD i default).size o) ∧ (X.getD k default).ahead o p < (X.getD k default).size o ∧ q = ⟨(X.getD k default).id, (X.getD k default).ahead o p⟩ := by
  induction X with
  | nil => cases h
  | cons x X ih =>
    unfold nextP at h
    by_cases hc : x.ahead o p < x.size o
    · rw [if_pos hc] at h
      injection h with h
      exact ⟨0, by simp, fun i hi => by omega, by simpa using hc, by simpa using h.symm⟩
    · rw [if_neg hc] at h
      obtain ⟨k, h1, h2, h3, h4⟩ := ih h
      refine ⟨k + 1, by simpa using h1, fun i hi => ?_, by simpa using h3, by simpa using h4⟩
      rcases i with _ | i
      · simpa using hc
      · simpa using h2 i (by omega)
/-- An entry at or behind the place is answered. -/
theorem nextP_ge {X : List Ld} {o : Nat} {p q : Ps} (h : nextP X o p = some q) : ¬ q.lt p := by
  obtain ⟨k, h1, h2, h3, rfl⟩ := nextP_some h
  intro hlt
  have := ((X.getD k default).lt_ahead o p (k := (X.getD k default).ahead o p) h3).2 hlt
  omega

/-- All places. -/
def allP (X : List Ld) (o : Nat) : List Ps := X.flatMap fun x => (List.range (x.size o)).map fun k => ⟨x.id, k⟩
theorem allP_cons (x : Ld) (X : List Ld) (o : Nat) : allP (x :: X) o = ((List.range (x.size o)).map fun k => ⟨x.id, k⟩) ++ allP X o := rfl
theorem allP_append (X Y : List Ld) (o : Nat) : allP (X ++ Y) o = allP X o ++ allP Y o := by unfold allP; rw [List.flatMap_append]
theorem allP_take {X : List Ld} {k : Nat} (o : Nat) (hk : k < X.length) : allP (X.take (k + 1)) o = allP (X.take k) o ++ ((List.range ((X.getD k default).size o)).map fun j => ⟨(X.getD k default).id, j⟩) := by
  have e : X.getD k default = X[k] := by simp [hk]
  rw [e, List.take_succ_eq_append_getElem hk, allP_append]
  simp [allP]
theorem allP_length (X : List Ld) (o : Nat) : (allP X o).length = tot X o := by
  induction X with
  | nil => rfl
  | cons x X ih => rw [allP_cons, List.length_append, ih]; simp [tot]
theorem find_range {n m : Nat} {f : Nat → Ps} {P : Ps → Bool} (h : ∀ k, k < n → (P (f k) = true ↔ m ≤ k)) : ((List.range n).map f).find? P = if m < n then some (f m) else none := by
  split
  · rename_i hm
    rw [List.find?_eq_some_iff_append]
    refine ⟨(h m hm).2 (Nat.le_refl _), (List.range m).map f, (List.range' (m + 1) (n - m - 1)).map f, ?_, fun a ha => ?_⟩
    · rw [← List.map_cons, ← List.map_append]
      congr 1
      obtain ⟨r, rfl⟩ : ∃ r, n = m + (r + 1) := ⟨n - m - 1, by omega⟩
      rw [List.range_eq_range', List.range_eq_range', ← List.range'_append_1, List.range'_succ, show m + (r + 1) - m - 1 = r by omega, Nat.zero_add]
    · simp only [List.mem_map, List.mem_range] at ha
      obtain ⟨k, hk, rfl⟩ := ha
      have := h k (by omega)
      cases hP : P (f k)
      · rfl
      · have := this.1 hP; omega
  · rw [List.find?_eq_none]
    intro a ha
    simp only [List.mem_map, List.mem_range] at ha
    obtain ⟨k, hk, rfl⟩ := ha
    intro hP
    have := (h k hk).1 hP
    omega
/-- The document's way: entry by entry. -/
theorem nextP_find (X : List Ld) (o : Nat) (p : Ps) : (allP X o).find? (fun q => decide (¬ q.lt p)) = nextP X o p := by
  induction X with
  | nil => rfl
  | cons x X ih =>
    rw [allP_cons, List.find?_append, ih]
    rw [find_range (m := x.ahead o p) (fun k hk => by rw [decide_eq_true_iff, ← x.lt_ahead o p hk]; omega)]
    conv => rhs; unfold nextP
    split <;> simp
/-- Trimmed: what goes. -/
def goesL (p : Ps) (x : Ld) : Bool := x.cl && decide (¬ p.lt ⟨x.id, x.n⟩)
def trimL (X : List Ld) (p : Ps) : List Ld := X.dropWhile (goesL p)
/-- The place behind one. -/
def behindP (p : Ps) : Ps := if p.e = 18446744073709551615 then ⟨(p.l + 1) % 18446744073709551616, 0⟩ else ⟨p.l, p.e + 1⟩
end Go.Proofs.Ytghadpihmhaepaa
