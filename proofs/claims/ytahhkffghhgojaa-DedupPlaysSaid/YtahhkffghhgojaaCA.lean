/- Contracts and mathematics that the proofs of this seat stand on: RowDef, RowIn, Bytes, Frm, App, Head, Vals, Elems, OwnVals, Sn, Ln, Kl, LnCut, StrL, Str, TbAt, TbMath, TbOps, TbAll, PkMath, PkClone, PkRefPut, RcW, PkDigits, PkPut, PkDone. -/
import Derived.Test.YtahhkffghhgojaaProg
import Derived.WalkKit
import Derived.Lib.Hide
import Derived.OwnWalk
import Derived.Laws.AppendOwn
import Derived.Laws.OwnMore
import Derived.OneCell
import Derived.Deep.Draws
import Derived.Maps.AppendAt
import Derived.Deep.RegionLaw
import Derived.Laws.Slices
import Derived.Lib.Strings
import Derived.Lib.Bytealg
import Derived.Laws.BytesArg
import Derived.Deep.DeepCutAuto
import Derived.Deep.CutBlock
import Derived.RegionTactic
import Derived.BigRegion
import Derived.BigQuiet
import Derived.Deep.QuietTactic
import Derived.Deep.RegionHeld
import Derived.Deep.RegionHeld3
import Derived.Test.YtahhkffghhgojaaRows
import Derived.WalkSpells
import Derived.Outline
import Derived.Handy
import Derived.StillTailTactics
/- A slice of bytes that reads as a list, and small words: plain, of this seat's program alone by its import. -/
namespace Go.Proofs.Ytahhkffghhgojaa
open Go.RowKit

theorem same_int {k : IntKind} {a b : Int} (h : a = b) : Value.int k a = Value.int k b := by rw [h]
theorem ret_same {k : IntKind} {a b : Int} (h : a = b) : Ending.returned (.int k a) = .returned (.int k b) := by rw [h]
/-- A slice value at address 'a' reads as the bytes 'l'. -/
def Bytes (w : World) (a : Option Addr) (l : List Nat) : Prop :=
  (∀ c ∈ l, c < 256) ∧ l.length ≤ 9223372036854775807 ∧
  (l = [] ∨ ∃ b off, a = some ⟨b, off, none⟩ ∧ ∀ i, i < l.length → w.cell? ⟨b, off + i, none⟩ = some (.int .u8 (l.getD i 0 : Nat)))

theorem take_snoc_getD {l : List Nat} {i : Nat} (h : i < l.length) : l.take (i + 1) = l.take i ++ [l.getD i 0] := by
  rw [List.take_succ_eq_append_getElem h]; simp [h]
end Go.Proofs.Ytahhkffghhgojaa
/- What a slice of bytes that came in reads as, in plain words of this seat: a list of natural numbers below 256. Plain lemmas, no condition. -/
namespace Go.Proofs.Ytahhkffghhgojaa
open Go.RowKit

/-- A slice of integers that came in: nil, or a row of cells. -/
def RowIn (k : IntKind) (w : World) (a : Option Addr) (len cap : Nat) (zs : List Int) : Prop :=
  (a = none ∧ len = 0 ∧ cap = 0 ∧ zs = []) ∨
  ∃ x, a = some x ∧ len ≤ cap ∧ cap ≤ maxLen ∧ zs.length = cap ∧ (∀ i, i < zs.length → w.cell? (x.add i) = some (.int k (zs.getD i 0))) ∧ ∀ n ∈ zs, (Lit.int k n).wf = true

theorem Bytes.later {w w' : World} {a : Option Addr} {l : List Nat} (h : Bytes w a l) (hb : Below w.heap.size w w') : Bytes w' a l := by
  obtain ⟨h1, h2, h3⟩ := h
  refine ⟨h1, h2, ?_⟩
  rcases h3 with h | ⟨b, off, ha, hc⟩
  · exact .inl h
  · refine .inr ⟨b, off, ha, fun i hi => ?_⟩
    have e := hc i hi
    have hlt : b < w.heap.size := by
      rcases Nat.lt_or_ge b w.heap.size with h' | h'
      · exact h'
      · simp [World.cell?, Array.getElem?_eq_none h'] at e
    rw [← e]
    exact hb.cell (p := ⟨b, off + i, none⟩) hlt
end Go.Proofs.Ytahhkffghhgojaa
/- Slices of bytes that the call itself makes: appending whatever slice of bytes (nil or not), and what such a slice reads as. Plain laws over any program with the element type's row at hand. -/
namespace Go.Proofs.Ytahhkffghhgojaa
open Go.RowKit

def u8v (c : Nat) : Value := .int .u8 (c : Int)
theorem u8v_one (l : List Nat) : ∀ u ∈ l.map u8v, u.oneCell' = true := by
  intro u hu
  obtain ⟨c, _, rfl⟩ := List.mem_map.1 hu
  rfl
theorem addr_add (b off i : Nat) : (⟨b, off, none⟩ : Addr).add i = ⟨b, off + i, none⟩ := by
  unfold Addr.add
  by_cases hi0 : i = 0
  · subst hi0; simp
  · simp [hi0]
theorem getD_map_u8v {l : List Nat} {i : Nat} (h : i < l.length) : (l.map u8v)[i]? = some (u8v (l.getD i 0)) := by
  simp [h]
theorem Bytes.news {w : World} {b off : Nat} {l : List Nat} (h : ∀ i, i < l.length → w.cell? ⟨b, off + i, none⟩ = some (.int .u8 (l.getD i 0 : Nat))) :
    ∀ j u, (l.map u8v)[j]? = some u → w.cell? ((⟨b, off, none⟩ : Addr).add j) = some u := by
  intro j u hu
  have hj : j < l.length := by
    rcases Nat.lt_or_ge j l.length with h' | h'
    · exact h'
    · rw [List.getElem?_eq_none (by simpa using h')] at hu; cases hu
  rw [getD_map_u8v hj] at hu
  cases hu
  rw [addr_add]; exact h j hj

/-- What a slice of the call's own reads as. -/
theorem bytes_of_own {w : World} {base e : Nat} {a : Option Addr} {n cap : Nat} {l : List Nat} (h : w.ownsRow base e 1 (.slice a n cap) n (l.map u8v)) (h8 : ∀ c ∈ l, c < 256) :
    n = l.length ∧ Bytes w a l ∧ (a = none → cap = 0) := by
  have hn : n = l.length := by have := h.1; simpa using this.symm
  refine ⟨hn, ⟨h8, ?_, ?_⟩, ?_⟩
  · rcases h.2 with ⟨_, h0⟩ | ⟨g, cap', cur, _, _, _, hnc, hcm, _⟩
    · omega
    · unfold maxLen at hcm; omega
  · rcases h.2 with ⟨hv, h0⟩ | ⟨g, cap', cur, hv, hb, hg, hnc, hcm, hcs, ht⟩
    · left; exact List.eq_nil_of_length_eq_zero (by omega)
    · right
      simp only [Value.slice.injEq] at hv
      obtain ⟨rfl, _, rfl⟩ := hv
      refine ⟨g, 0, rfl, fun i hi => ?_⟩
      have := h.cellAt i (by omega)
      rw [Nat.zero_add, this, getD_map_u8v hi]; rfl
  · intro ha
    rcases h.2 with ⟨hv, h0⟩ | ⟨g, cap', cur, hv, _⟩
    · simp only [Value.slice.injEq] at hv; exact hv.2.2
    · subst ha; simp at hv

section
variable {P : Program} {w : World}

theorem run_append_bytes (base : Nat) (t ty e : TypeId) (i : TypeInfo) (ht : P.underlying t = some (.slice e)) (hi : P.info? e = some i) (hz : i.zero = some (.int .u8 0))
    (hsize : i.size = 1) (hby : i.bytes = 1) (v : Value) (n : Nat) (xs : List Value) (hown : w.ownsRow base e 1 v n xs)
    (ad : Option Addr) (m c : Nat) (l : List Nat) (hB : Bytes w ad l) (hm : m = l.length) (hnil : ad = none → c = 0)
    (hfit : n + m ≤ 140737488355328) (hbase : base ≤ w.heap.size) :
    ∃ a' cap' w', (Builtin.append_ #[t, t] ty #[v, .slice ad m c]).run P w = .ok (.slice a' (n + m) cap') w' ∧ w'.ownsRow base e 1 (.slice a' (n + m) cap') (n + m) (xs ++ l.map u8v) ∧ w.grownBy w' v.ownBlock := by
  obtain ⟨h8, hl, hc⟩ := hB
  have shape : ∀ (v' : Value) (w' : World) (k : Nat) (ys : List Value), w'.ownsRow base e 1 v' k ys → ∃ a' cap', v' = .slice a' k cap' := by
    intro v' w' k ys h
    rcases h.2 with ⟨hv, h0⟩ | ⟨g, cap', cur, hv, _⟩
    · exact ⟨none, 0, by rw [hv, h0]⟩
    · exact ⟨_, cap', hv⟩
  cases ad with
  | none =>
    have hc0 := hnil rfl
    subst hc0
    have hl0 : l = [] := by
      rcases hc with h | ⟨b, off, h, _⟩
      · exact h
      · cases h
    subst hl0
    have hm0 : m = 0 := by simpa using hm
    subst hm0
    obtain ⟨a', cap', hv⟩ := shape v w n xs hown
    subst hv
    refine ⟨a', cap', w, run_append_owned_none (P := P) (w := w) base t ty e i 1 ht hi _ n xs hown, by simpa using hown, World.grownBy.refl _ _⟩
  | some x =>
    have hnews : ∀ j u, (l.map u8v)[j]? = some u → w.cell? (x.add j) = some u := by
      rcases hc with h | ⟨b, off, h, hh⟩
      · subst h; intro j u hu; simp at hu
      · cases h; exact Bytes.news hh
    obtain ⟨v', w', hr, ho, hg, _⟩ := run_append_own (P := P) w base t ty e i (.int .u8 0) 1 1 ht hi hz hsize hby rfl (by decide) v n xs hown x m c (l.map u8v) (by simp [hm]) hnews (u8v_one l) (by unfold maxLen; omega) (by omega) hbase
    obtain ⟨a', cap', hv⟩ := shape v' w' (n + m) _ ho
    subst hv
    exact ⟨a', cap', w', hr, ho, hg⟩

theorem wpList_append_bytes {ops : Array Oper} {rest : List Oper} {o : Oper} {a : Act} {Q : Exit → Act → World → Prop} (hgd : o.guard = none) (s x : Operand) (t : TypeId)
    (ho : o.op = .call { callee := .builtin .append, args := #[s, x], argTypes := #[t, t] })
    (base : Nat) (e : TypeId) (i : TypeInfo) (ht : P.underlying t = some (.slice e)) (hi : P.info? e = some i) (hz : i.zero = some (.int .u8 0))
    (hsize : i.size = 1) (hby : i.bytes = 1) (v : Value) (n : Nat) (xs : List Value) (hs : a.eval s = v) (hown : w.ownsRow base e 1 v n xs)
    (ad : Option Addr) (m c : Nat) (l : List Nat) (hx : a.eval x = .slice ad m c) (hB : Bytes w ad l) (hm : m = l.length) (hnil : ad = none → c = 0)
    (hfit : n + m ≤ 140737488355328) (hbase : base ≤ w.heap.size)
    (h : ∀ a' cap' w', w'.ownsRow base e 1 (.slice a' (n + m) cap') (n + m) (xs ++ l.map u8v) → w.grownBy w' v.ownBlock → wpList P ops Q rest (a.put o.dst (.slice a' (n + m) cap')) w') : wpList P ops Q (o :: rest) a w := by
  refine wpList_plain hgd fun K hK => ?_
  obtain ⟨a', cap', w', hr, h2, h3⟩ := run_append_bytes (P := P) base t o.type e i ht hi hz hsize hby v n xs hown ad m c l hB hm hnil hfit hbase
  unfold Oper.wp execOp
  simp only [ho, resolve, invoke, builtin, Sem.run_bind, Sem.run_pure, Result.andThen_ok, List.map_toArray, List.map_cons, List.map_nil, hs, hx, hr]
  exact hK _ _ (h a' cap' w' h2 h3)
end
end Go.Proofs.Ytahhkffghhgojaa
/- Plain words on memory: which blocks a call may have turned (Frm), a block known whole (Whole), what stays as it was. They speak of no program. -/
namespace Go.Proofs.Ytahhkffghhgojaa
open Go.RowKit

/-- From w to w' only the blocks in S, and new ones, have turned. -/
structure Frm (S : List Nat) (w w' : World) : Prop where
  os : w'.os = w.os
  tape : w'.tape = w.tape
  output : w'.output = w.output
  size : w.heap.size ≤ w'.heap.size
  block : ∀ k, k < w.heap.size → k ∉ S → w'.heap[k]? = w.heap[k]?

theorem Frm.refl (S : List Nat) (w : World) : Frm S w w := ⟨rfl, rfl, rfl, Nat.le_refl _, fun _ _ _ => rfl⟩
theorem Frm.trans {S T U : List Nat} {a b c : World} (h : Frm S a b) (k : Frm T b c) (hS : ∀ x ∈ S, x ∈ U) (hT : ∀ x ∈ T, x ∈ U ∨ a.heap.size ≤ x) : Frm U a c :=
  ⟨k.os.trans h.os, k.tape.trans h.tape, k.output.trans h.output, Nat.le_trans h.size k.size, fun i hi hn =>
    (k.block i (Nat.lt_of_lt_of_le hi h.size) (fun hm => by rcases hT i hm with h1 | h1; exact hn h1; omega)).trans (h.block i hi (fun hm => hn (hS i hm)))⟩
theorem Frm.weak {S U : List Nat} {a b : World} (h : Frm S a b) (hS : ∀ x ∈ S, x ∈ U ∨ a.heap.size ≤ x) : Frm U a b :=
  ⟨h.os, h.tape, h.output, h.size, fun i hi hn => h.block i hi (fun hm => by rcases hS i hm with h1 | h1; exact hn h1; omega)⟩
theorem Frm.drew {S : List Nat} {a w : World} (h : Frm S a w) : Frm S a w.drew := ⟨h.os, h.tape, h.output, h.size, h.block⟩
theorem Frm.drewN {S : List Nat} {a w : World} (h : Frm S a w) (n : Nat) : Frm S a (w.drewN n) := ⟨h.os, h.tape, h.output, h.size, h.block⟩
theorem Frm.alloc {S : List Nat} {a w : World} (h : Frm S a w) (o : Obj) : Frm S a (w.alloc o) :=
  ⟨h.os, h.tape, h.output, Nat.le_trans h.size (by simp), fun i hi hn => (Below.heap_alloc w o i (Nat.lt_of_lt_of_le hi h.size)).trans (h.block i hi hn)⟩
theorem Frm.setCell {S : List Nat} {a w : World} (h : Frm S a w) {p : Addr} (hp : p.block ∈ S ∨ a.heap.size ≤ p.block) (u : Value) : Frm S a (w.setCell p u) :=
  ⟨h.os, h.tape, h.output, by simpa [World.setCell] using h.size, fun i hi hn => (Below.heap_setCell w p u i (by
    rintro rfl
    rcases hp with hp | hp
    · exact hn hp
    · omega)).trans (h.block i hi hn)⟩
theorem Frm.grown {S : List Nat} {a w w' : World} {row : Option Nat} (h : Frm S a w) (hg : w.grownBy w' row) (hr : ∀ k, row = some k → k ∈ S ∨ a.heap.size ≤ k) : Frm S a w' :=
  ⟨hg.os.trans h.os, hg.tape.trans h.tape, hg.output.trans h.output, Nat.le_trans h.size hg.size, fun i hi hn =>
    (hg.block i (Nat.lt_of_lt_of_le hi h.size) (fun e => by rcases hr i e.symm with h1 | h1; exact hn h1; omega)).trans (h.block i hi hn)⟩
theorem Frm.below {S : List Nat} {w w' : World} {B : Nat} (h : Frm S w w') (hS : ∀ x ∈ S, B ≤ x) (hB : B ≤ w.heap.size) : Below B w w' :=
  ⟨h.os, h.tape, h.output, h.size, fun k hk => h.block k (by omega) (fun hm => by have := hS k hm; omega)⟩
theorem Frm.ofBelow {w w' : World} (h : Below w.heap.size w w') : Frm [] w w' := ⟨h.os, h.tape, h.output, h.size, fun k hk _ => h.block k hk⟩
theorem Frm.cell {S : List Nat} {w w' : World} (h : Frm S w w') {p : Addr} (hp : p.block < w.heap.size) (hn : p.block ∉ S) : w'.cell? p = w.cell? p := World.cell?_of_block (w := w) (h.block p.block hp hn)
theorem Frm.frozen {S : List Nat} {w w' : World} (h : Frm S w w') {p : Addr} (hp : p.block < w.heap.size) (hn : p.block ∉ S) : w'.frozen? p = w.frozen? p := World.frozen?_of_block (w := w) (h.block p.block hp hn)

theorem Frm.own {S : List Nat} {w w' : World} (hf : Frm S w w') {base : Nat} {e : TypeId} {size : Nat} {v : Value} {n : Nat} {xs : List Value} (h : w.ownsRow base e size v n xs)
    (hn : ∀ g, v.ownBlock = some g → g ∉ S) : w'.ownsRow base e size v n xs := by
  obtain ⟨h1, h2⟩ := h
  refine ⟨h1, ?_⟩
  rcases h2 with h2 | ⟨g, cap, cur, rfl, hg, hh, r⟩
  · exact Or.inl h2
  · exact Or.inr ⟨g, cap, cur, rfl, hg, by rw [hf.block g (lt_of_block hh) (hn g rfl)]; exact hh, r⟩

theorem Frm.bytes {S : List Nat} {w w' : World} (hf : Frm S w w') {a : Option Addr} {l : List Nat} (h : Bytes w a l) (hn : ∀ x, a = some x → x.block ∉ S) : Bytes w' a l := by
  obtain ⟨h1, h2, h3⟩ := h
  refine ⟨h1, h2, ?_⟩
  rcases h3 with h | ⟨b, off, ha, hc⟩
  · exact .inl h
  · refine .inr ⟨b, off, ha, fun i hi => ?_⟩
    have e := hc i hi
    have hlt : b < w.heap.size := block_lt_of_cell (a := ⟨b, off + i, none⟩) e
    rw [← e]
    exact hf.cell (p := ⟨b, off + i, none⟩) hlt (hn ⟨b, off, none⟩ ha)

theorem bytes_lt {w : World} {a : Option Addr} {l : List Nat} (h : Bytes w a l) (hne : l ≠ []) : ∀ x, a = some x → x.block < w.heap.size := by
  intro x hx
  rcases h.2.2 with h0 | ⟨b, off, ha, hc⟩
  · exact absurd h0 hne
  · rw [ha] at hx
    cases hx
    exact block_lt_of_cell (a := ⟨b, off + 0, none⟩) (hc 0 (by cases l with | nil => exact absurd rfl hne | cons _ _ => simp))
theorem Frm.bytes' {S : List Nat} {w w' : World} (hf : Frm S w w') {a : Option Addr} {l : List Nat} (h : Bytes w a l) (hn : l ≠ [] → ∀ x, a = some x → x.block ∉ S) : Bytes w' a l := by
  by_cases hne : l = []
  · subst hne; exact ⟨by simp, by simp, .inl rfl⟩
  · exact hf.bytes h (hn hne)

/-- Block g is just these cells, none of them frozen. -/
def Whole (w : World) (g : Nat) (t : TypeId) (cs : Array Value) : Prop := w.heap[g]? = some (.cells cs t (0, 0))
section
variable {w w' : World} {g : Nat} {t : TypeId} {cs : Array Value}
theorem Whole.lt (h : Whole w g t cs) : g < w.heap.size := lt_of_block h
theorem Whole.cell (h : Whole w g t cs) (i : Nat) : w.cell? ⟨g, i, none⟩ = cs[i]? := cell_of_row w g i cs t (0, 0) h
theorem Whole.free (h : Whole w g t cs) (i : Nat) : w.frozen? ⟨g, i, none⟩ = false := frozen_of_row w g i cs t h
theorem Whole.made (w : World) (t : TypeId) (cs : Array Value) : Whole (w.alloc (.cells cs t)) w.heap.size t cs := heap_alloc_new w _
theorem Whole.drew (h : Whole w g t cs) : Whole w.drew g t cs := h
theorem Whole.alloc (h : Whole w g t cs) (o : Obj) : Whole (w.alloc o) g t cs := (Below.heap_alloc w o g h.lt).trans h
theorem Whole.put (h : Whole w g t cs) (i : Nat) (u : Value) : Whole (w.setCell ⟨g, i, none⟩ u) g t (cs.setIfInBounds i u) := heap_setCell_same w g i cs t u h
theorem Whole.other (h : Whole w g t cs) {p : Addr} (hp : g ≠ p.block) (u : Value) : Whole (w.setCell p u) g t cs := (heap_setCell_other w p g u hp).trans h
theorem Frm.whole {S : List Nat} (hf : Frm S w w') (h : Whole w g t cs) (hn : g ∉ S) : Whole w' g t cs := (hf.block g h.lt hn).trans h
theorem Whole.ne {g' : Nat} {t' : TypeId} {cs' : Array Value} (h : Whole w g t cs) (h' : Whole w g' t' cs') (hne : t ≠ t') : g ≠ g' := by
  rintro rfl
  unfold Whole at h h'
  rw [h] at h'
  injection h' with h'
  injection h' with _ ht
  exact hne ht
theorem own_ne {base : Nat} {e : TypeId} {size n : Nat} {v : Value} {xs : List Value} (h : w.ownsRow base e size v n xs) (hg : Whole w g t cs) (hne : e ≠ t) : v.ownBlock ≠ some g := by
  rcases h.2 with ⟨rfl, _⟩ | ⟨g', cap, cur, rfl, _, hh, _⟩
  · simp [Value.ownBlock]
  · intro he
    have : g' = g := by simpa [Value.ownBlock] using he
    subst this
    exact Whole.ne (t := e) hh hg hne rfl
end
end Go.Proofs.Ytahhkffghhgojaa
/- Appending whatever slice of bytes (nil or not) to a row of the call's own, with where the new row lies; in a plain region (wpList_app) and in one that draws its order (step_app). They speak of no program. -/
namespace Go.Proofs.Ytahhkffghhgojaa
open Go.RowKit

section
variable {P : Program} {w : World}
/-- What appending the bytes l to an owned value leaves. -/
structure App (w w' : World) (base : Nat) (e : TypeId) (v : Value) (n m : Nat) (xs : List Value) (l : List Nat) (a' : Option Addr) (cap' : Nat) : Prop where
  own : w'.ownsRow base e 1 (.slice a' (n + m) cap') (n + m) (xs ++ l.map u8v)
  grown : w.grownBy w' v.ownBlock
  place : (Value.slice a' (n + m) cap').ownBlock = v.ownBlock ∨ (Value.slice a' (n + m) cap').ownBlock = some w.heap.size

theorem run_app (base : Nat) (t ty e : TypeId) (i : TypeInfo) (ht : P.underlying t = some (.slice e)) (hi : P.info? e = some i) (hz : i.zero = some (.int .u8 0))
    (hsize : i.size = 1) (hby : i.bytes = 1) (v : Value) (n : Nat) (xs : List Value) (hown : w.ownsRow base e 1 v n xs)
    (ad : Option Addr) (m c : Nat) (l : List Nat) (hB : Bytes w ad l) (hm : m = l.length) (hnil : ad = none → c = 0)
    (hfit : n + m ≤ 140737488355328) (hbase : base ≤ w.heap.size) :
    ∃ a' cap' w', (Builtin.append_ #[t, t] ty #[v, .slice ad m c]).run P w = .ok (.slice a' (n + m) cap') w' ∧ App w w' base e v n m xs l a' cap' := by
  obtain ⟨h8, hl, hc⟩ := hB
  have shape : ∀ (v' : Value) (w' : World) (k : Nat) (ys : List Value), w'.ownsRow base e 1 v' k ys → ∃ a' cap', v' = .slice a' k cap' := by
    intro v' w' k ys h
    rcases h.2 with ⟨hv, h0⟩ | ⟨g, cap', cur, hv, _⟩
    · exact ⟨none, 0, by rw [hv, h0]⟩
    · exact ⟨_, cap', hv⟩
  cases ad with
  | none =>
    have hc0 := hnil rfl
    subst hc0
    have hl0 : l = [] := by
      rcases hc with h | ⟨b, off, h, _⟩
      · exact h
      · cases h
    subst hl0
    have hm0 : m = 0 := by simpa using hm
    subst hm0
    obtain ⟨a', cap', hv⟩ := shape v w n xs hown
    subst hv
    exact ⟨a', cap', w, run_append_owned_none (P := P) (w := w) base t ty e i 1 ht hi _ n xs hown, by simpa using hown, World.grownBy.refl _ _, .inl rfl⟩
  | some x =>
    have hnews : ∀ j u, (l.map u8v)[j]? = some u → w.cell? (x.add j) = some u := by
      rcases hc with h | ⟨b, off, h, hh⟩
      · subst h; intro j u hu; simp at hu
      · cases h; exact Bytes.news hh
    obtain ⟨v', w', hr, ho, hg, _, hpl⟩ := run_append_own_at (P := P) w base t ty e i (.int .u8 0) 1 1 ht hi hz hsize hby rfl (by decide) v n xs hown x m c (l.map u8v) (by simp [hm]) hnews (u8v_one l) (by unfold maxLen; omega) (by omega) hbase
    obtain ⟨a', cap', hv⟩ := shape v' w' (n + m) _ ho
    subst hv
    exact ⟨a', cap', w', hr, ho, hg, hpl⟩

theorem wpList_app {ops : Array Oper} {rest : List Oper} {o : Oper} {a : Act} {Q : Exit → Act → World → Prop} (hgd : o.guard = none) (s x : Operand) (t : TypeId)
    (ho : o.op = .call { callee := .builtin .append, args := #[s, x], argTypes := #[t, t] })
    (base : Nat) (e : TypeId) (i : TypeInfo) (ht : P.underlying t = some (.slice e)) (hi : P.info? e = some i) (hz : i.zero = some (.int .u8 0))
    (hsize : i.size = 1) (hby : i.bytes = 1) (v : Value) (n : Nat) (xs : List Value) (hs : a.eval s = v) (hown : w.ownsRow base e 1 v n xs)
    (ad : Option Addr) (m c : Nat) (l : List Nat) (hx : a.eval x = .slice ad m c) (hB : Bytes w ad l) (hm : m = l.length) (hnil : ad = none → c = 0)
    (hfit : n + m ≤ 140737488355328) (hbase : base ≤ w.heap.size)
    (h : ∀ a' cap' w', App w w' base e v n m xs l a' cap' → wpList P ops Q rest (a.put o.dst (.slice a' (n + m) cap')) w') : wpList P ops Q (o :: rest) a w := by
  refine wpList_plain hgd fun K hK => ?_
  obtain ⟨a', cap', w', hr, h2⟩ := run_app (P := P) base t o.type e i ht hi hz hsize hby v n xs hown ad m c l hB hm hnil hfit hbase
  unfold Oper.wp execOp
  simp only [ho, resolve, invoke, builtin, Sem.run_bind, Sem.run_pure, Result.andThen_ok, List.map_toArray, List.map_cons, List.map_nil, hs, hx, hr]
  exact hK _ _ (h a' cap' w' h2)

theorem step_app {ops : Array Oper} {o : Oper} {a : Act} {K : Act → World → Prop} {Q : Exit → Act → World → Prop} {E : Prop} (hgd : o.guard = none) (s x : Operand) (t : TypeId)
    (ho : o.op = .call { callee := .builtin .append, args := #[s, x], argTypes := #[t, t] })
    (base : Nat) (e : TypeId) (i : TypeInfo) (ht : P.underlying t = some (.slice e)) (hi : P.info? e = some i) (hz : i.zero = some (.int .u8 0))
    (hsize : i.size = 1) (hby : i.bytes = 1) (v : Value) (n : Nat) (xs : List Value) (hs : a.eval s = v) (hown : w.ownsRow base e 1 v n xs)
    (ad : Option Addr) (m c : Nat) (l : List Nat) (hx : a.eval x = .slice ad m c) (hB : Bytes w ad l) (hm : m = l.length) (hnil : ad = none → c = 0)
    (hfit : n + m ≤ 140737488355328) (hbase : base ≤ w.heap.size)
    (h : ∀ a' cap' w', App w w' base e v n m xs l a' cap' → K (a.put o.dst (.slice a' (n + m) cap')) w') :
    if Region.wanted o (yielded ops a.tmps) = true then Oper.wp P o a w K Q else E := by
  have hw : Region.wanted o (yielded ops a.tmps) = true := by simp [Region.wanted, hgd]
  rw [if_pos hw]
  obtain ⟨a', cap', w', hr, h2⟩ := run_app (P := P) base t o.type e i ht hi hz hsize hby v n xs hown ad m c l hB hm hnil hfit hbase
  unfold Oper.wp execOp
  simp only [ho, resolve, invoke, builtin, Sem.run_bind, Sem.run_pure, Result.andThen_ok, List.map_toArray, List.map_cons, List.map_nil, hs, hx, hr]
  exact h a' cap' w' h2
end
end Go.Proofs.Ytahhkffghhgojaa
/- A slice of bytes at the head of a block of the call's own, with spare room or without (Hd); what appending to it leaves, in a plain region and in one that draws its order. They speak of no program. -/
namespace Go.Proofs.Ytahhkffghhgojaa
open Go.RowKit

/-- The block that a slice lies in, if it has one. -/
def blk (a : Option Addr) : List Nat := (a.map (·.block)).toList
@[simp] theorem blk_none : blk none = [] := rfl
@[simp] theorem blk_some (x : Addr) : blk (some x) = [x.block] := rfl
theorem mem_blk {a : Option Addr} {g : Nat} : g ∈ blk a ↔ ∃ x, a = some x ∧ x.block = g := by
  cases a with
  | none => simp
  | some y => simp; exact ⟨fun h => h.symm, fun h => h.symm⟩

/-- The slice at a, of capacity cap, is the bytes l: nil, or the head of a block from B on. -/
def Hd (w : World) (B : Nat) (e : TypeId) (a : Option Addr) (cap : Nat) (l : List Nat) : Prop :=
  (a = none ∧ l = [] ∧ cap = 0) ∨
  ∃ g cur, a = some ⟨g, 0, none⟩ ∧ B ≤ g ∧ w.heap[g]? = some (.cells cur e (0, 0)) ∧ l.length ≤ cap ∧ cap ≤ maxLen ∧ cap ≤ cur.size ∧ cur.toList.take l.length = l.map u8v

section
variable {w w' : World} {B : Nat} {e : TypeId} {a : Option Addr} {cap : Nat} {l : List Nat}
theorem Hd.nil (w : World) (B : Nat) (e : TypeId) : Hd w B e none 0 [] := .inl ⟨rfl, rfl, rfl⟩
theorem Hd.cap_le (h : Hd w B e a cap l) : l.length ≤ cap ∧ cap ≤ maxLen := by
  rcases h with ⟨_, rfl, rfl⟩ | ⟨g, cur, _, _, _, h1, h2, _⟩
  · simp
  · exact ⟨h1, h2⟩
theorem Hd.blk_lt (h : Hd w B e a cap l) : ∀ g ∈ blk a, B ≤ g ∧ g < w.heap.size := by
  intro x hx
  rcases h with ⟨rfl, _⟩ | ⟨g, cur, rfl, hb, hg, _⟩
  · simp at hx
  · simp at hx; subst hx; exact ⟨hb, lt_of_block hg⟩
theorem Hd.cellAt {g : Nat} (h : Hd w B e (some ⟨g, 0, none⟩) cap l) {i : Nat} (hi : i < l.length) : w.cell? ⟨g, i, none⟩ = some (u8v (l.getD i 0)) := by
  rcases h with ⟨h, _⟩ | ⟨g', cur, h, hb, hg, h1, h2, h3, ht⟩
  · cases h
  · cases h
    rw [cell_of_row w g i cur e (0, 0) hg]
    have e1 : (cur.toList.take l.length)[i]? = some (u8v (l.getD i 0)) := by rw [ht, getD_map_u8v hi]
    rw [List.getElem?_take, if_pos hi] at e1
    simpa using e1
theorem Hd.frozenAt {g : Nat} (h : Hd w B e (some ⟨g, 0, none⟩) cap l) (i : Nat) : w.frozen? ⟨g, i, none⟩ = false := by
  rcases h with ⟨h, _⟩ | ⟨g', cur, h, hb, hg, h1, h2, h3, ht⟩
  · cases h
  · cases h
    exact frozen_of_row w g i cur e hg
theorem Hd.bytes (h : Hd w B e a cap l) (h8 : ∀ c ∈ l, c < 256) : Bytes w a l := by
  have hc := h.cap_le
  unfold maxLen at hc
  refine ⟨h8, by omega, ?_⟩
  rcases h with ⟨_, rfl, _⟩ | ⟨g, cur, rfl, hb, hg, h1, h2, h3, ht⟩
  · exact .inl rfl
  · right
    refine ⟨g, 0, rfl, fun i hi => ?_⟩
    rw [Nat.zero_add]
    exact Hd.cellAt (.inr ⟨g, cur, rfl, hb, hg, h1, h2, h3, ht⟩) hi
theorem Hd.keep {S : List Nat} (h : Hd w B e a cap l) (hf : Frm S w w') (hn : ∀ g ∈ blk a, g ∉ S) : Hd w' B e a cap l := by
  rcases h with h | ⟨g, cur, rfl, hb, hg, h1⟩
  · exact .inl h
  · exact .inr ⟨g, cur, rfl, hb, by rw [hf.block g (lt_of_block hg) (hn g (by simp))]; exact hg, h1⟩
/-- The head of a slice, without spare room. -/
theorem Hd.tight (h : Hd w B e a cap l) (n : Nat) (hn : n ≤ l.length) : Hd w B e a n (l.take n) := by
  rcases h with ⟨rfl, rfl, rfl⟩ | ⟨g, cur, rfl, hb, hg, h1, h2, h3, ht⟩
  · have : n = 0 := by simpa using hn
    subst this; exact .inl ⟨rfl, rfl, rfl⟩
  · refine .inr ⟨g, cur, rfl, hb, hg, by simp; omega, by omega, by omega, ?_⟩
    have e1 : (l.take n).length = n := by simp; omega
    rw [e1, List.map_take, ← ht, List.take_take]
    congr 1; omega
/-- A byte of it is stored anew. -/
theorem Hd.put {g : Nat} (h : Hd w B e (some ⟨g, 0, none⟩) cap l) (i c : Nat) : Hd (w.setCell ⟨g, i, none⟩ (u8v c)) B e (some ⟨g, 0, none⟩) cap (l.set i c) := by
  rcases h with ⟨h, _⟩ | ⟨g', cur, h, hb, hg, h1, h2, h3, ht⟩
  · cases h
  · cases h
    refine .inr ⟨g, cur.setIfInBounds i (u8v c), rfl, hb, heap_setCell_same w g i cur e (u8v c) hg, by simpa using h1, h2, by simpa using h3, ?_⟩
    rw [List.length_set, Array.toList_setIfInBounds, List.take_set, ht, List.map_set]
end

section
variable {P : Program} {w : World}
/-- What appending the bytes b to such a slice leaves. -/
structure HApp (w w' : World) (B : Nat) (e : TypeId) (a : Option Addr) (l b : List Nat) (a' : Option Addr) (cap' : Nat) : Prop where
  head : Hd w' B e a' cap' (l ++ b)
  frm : Frm (blk a) w w'
  place : ∀ g ∈ blk a', g ∈ blk a ∨ w.heap.size ≤ g

end

section
variable {P : Program} {t e : TypeId}
theorem head_map (a : Option Addr) : a.map (·.add 0) = a := by
  cases a with
  | none => rfl
  | some x => simp [Addr.add]
end
end Go.Proofs.Ytahhkffghhgojaa
/- Rows of one-cell values that the call made itself; appending values to them. Slices of slices of bytes: what they read as (LL), rows of the call's own (OwnL), and what stays of them. They speak of no program. -/
namespace Go.Proofs.Ytahhkffghhgojaa
open Go.RowKit

/-- These values lie there, cell by cell. -/
def ValsAt (w : World) (x : Option Addr) (us : List Value) : Prop := us = [] ∨ ∃ b off, x = some ⟨b, off, none⟩ ∧ ∀ i u, us[i]? = some u → w.cell? ⟨b, off + i, none⟩ = some u
theorem ValsAt.nil (w : World) (x : Option Addr) : ValsAt w x [] := .inl rfl
theorem ValsAt.one (w : World) (v : Value) (t : TypeId) : ValsAt (w.alloc (.cells #[v] t)) (some ⟨w.heap.size, 0, none⟩) [v] := by
  refine .inr ⟨_, _, rfl, fun i u hu => ?_⟩
  rw [(Whole.made w t #[v]).cell]
  rw [Nat.zero_add]
  simpa using hu
theorem ValsAt.keep {S : List Nat} {w w' : World} {x : Option Addr} {us : List Value} (h : ValsAt w x us) (hf : Frm S w w') (hn : us ≠ [] → ∀ y, x = some y → y.block ∉ S) : ValsAt w' x us := by
  rcases h with h | ⟨b, off, rfl, hc⟩
  · exact .inl h
  · by_cases h0 : us = []
    · exact .inl h0
    · refine .inr ⟨b, off, rfl, fun i u hu => ?_⟩
      have e := hc i u hu
      exact (hf.cell (p := ⟨b, off + i, none⟩) (block_lt_of_cell e) (hn h0 ⟨b, off, none⟩ rfl)).trans e

section
variable {P : Program} {w : World}
/-- What appending the values us to an owned value leaves. -/
structure AppV (w w' : World) (base : Nat) (e : TypeId) (v : Value) (n m : Nat) (xs us : List Value) (a' : Option Addr) (cap' : Nat) : Prop where
  own : w'.ownsRow base e 1 (.slice a' (n + m) cap') (n + m) (xs ++ us)
  grown : w.grownBy w' v.ownBlock
  place : (Value.slice a' (n + m) cap').ownBlock = v.ownBlock ∨ (Value.slice a' (n + m) cap').ownBlock = some w.heap.size

end

/-- Values that are slices of bytes, and what they read as; what isn't empty lies outside the blocks F. -/
structure Ents (w : World) (F : List Nat) (vs : List Value) (L : List (List Nat)) : Prop where
  len : vs.length = L.length
  ent : ∀ i, i < L.length → ∃ a cap, vs[i]? = some (.slice a (L.getD i []).length cap) ∧ Bytes w a (L.getD i []) ∧ (L.getD i [] ≠ [] → ∀ x, a = some x → x.block ∉ F) ∧ (a = none → cap = 0)
theorem Ents.nil (w : World) (F : List Nat) : Ents w F [] [] := ⟨rfl, fun i h => absurd h (by simp)⟩
theorem Ents.keep {w w' : World} {F F' S : List Nat} {vs : List Value} {L : List (List Nat)} (h : Ents w F vs L) (hf : Frm S w w') (hS : ∀ x ∈ S, x ∈ F ∨ w.heap.size ≤ x) (hF : ∀ x ∈ F', x ∈ F ∨ w.heap.size ≤ x) : Ents w' F' vs L := by
  refine ⟨h.len, fun i hi => ?_⟩
  obtain ⟨a, cap, h1, h2, h3, h4⟩ := h.ent i hi
  refine ⟨a, cap, h1, hf.bytes' h2 (fun hne x hx hm => ?_), fun hne x hx hm => ?_, h4⟩
  · rcases hS _ hm with h | h
    · exact h3 hne x hx h
    · have := bytes_lt h2 hne x hx; omega
  · rcases hF _ hm with h | h
    · exact h3 hne x hx h
    · have := bytes_lt h2 hne x hx; omega
theorem Ents.append {w : World} {F : List Nat} {vs us : List Value} {L M : List (List Nat)} (h : Ents w F vs L) (k : Ents w F us M) : Ents w F (vs ++ us) (L ++ M) := by
  refine ⟨by simp [h.len, k.len], fun i hi => ?_⟩
  by_cases hl : i < L.length
  · obtain ⟨a, cap, h1, h2, h3⟩ := h.ent i hl
    have e : (L ++ M).getD i [] = L.getD i [] := by simp [List.getD, List.getElem?_append, hl]
    rw [e]
    exact ⟨a, cap, by rw [List.getElem?_append_left (by rw [h.len]; exact hl)]; exact h1, h2, h3⟩
  · rw [List.length_append] at hi
    obtain ⟨a, cap, h1, h2, h3⟩ := k.ent (i - L.length) (by omega)
    have e : (L ++ M).getD i [] = M.getD (i - L.length) [] := by simp [List.getD, List.getElem?_append, hl]
    rw [e]
    exact ⟨a, cap, by rw [List.getElem?_append_right (by rw [h.len]; omega), h.len]; exact h1, h2, h3⟩
theorem Ents.take {w : World} {F : List Nat} {vs : List Value} {L : List (List Nat)} (h : Ents w F vs L) (k : Nat) : Ents w F (vs.take k) (L.take k) := by
  refine ⟨by simp [h.len], fun i hi => ?_⟩
  rw [List.length_take] at hi
  obtain ⟨a, cap, h1, h2, h3⟩ := h.ent i (by omega)
  have e : (L.take k).getD i [] = L.getD i [] := by simp [List.getD, show i < k by omega]
  rw [e]
  exact ⟨a, cap, by rw [List.getElem?_take, if_pos (by omega)]; exact h1, h2, h3⟩

/-- A slice of slices of bytes, as it reads; neither it nor what is in it (if it isn't empty) lies in the blocks F. -/
def LL (w : World) (F : List Nat) (a : Option Addr) (L : List (List Nat)) : Prop :=
  ∃ vs, ValsAt w a vs ∧ Ents w F vs L ∧ (L ≠ [] → ∀ x, a = some x → x.block ∉ F)
theorem LL.keep {w w' : World} {F F' S : List Nat} {a : Option Addr} {L : List (List Nat)} (h : LL w F a L) (hf : Frm S w w') (hS : ∀ x ∈ S, x ∈ F ∨ w.heap.size ≤ x) (hF : ∀ x ∈ F', x ∈ F ∨ w.heap.size ≤ x) : LL w' F' a L := by
  obtain ⟨vs, h1, h2, h3⟩ := h
  have hlt : L ≠ [] → ∀ x, a = some x → x.block < w.heap.size := by
    intro h0 x hx
    have h0' : vs ≠ [] := by intro e; have := h2.len; rw [e] at this; exact h0 (List.eq_nil_of_length_eq_zero this.symm)
    rcases h1 with h | ⟨b, off, rfl, hc⟩
    · exact absurd h h0'
    · cases hx
      cases vs with
      | nil => exact absurd rfl h0'
      | cons v vs => exact block_lt_of_cell (a := ⟨b, off + 0, none⟩) (hc 0 v rfl)
  have hvs : vs ≠ [] → L ≠ [] := by intro h0 e; have := h2.len; rw [e] at this; exact h0 (List.eq_nil_of_length_eq_zero this)
  refine ⟨vs, h1.keep hf (fun h0 x hx hm => ?_), h2.keep hf hS hF, fun h0 x hx hm => ?_⟩
  · rcases hS _ hm with h | h
    · exact h3 (hvs h0) x hx h
    · have := hlt (hvs h0) x hx; omega
  · rcases hF _ hm with h | h
    · exact h3 h0 x hx h
    · have := hlt h0 x hx; omega
theorem LL.take {w : World} {F : List Nat} {a : Option Addr} {L : List (List Nat)} (h : LL w F a L) (k : Nat) : LL w F a (L.take k) := by
  obtain ⟨vs, h1, h2, h3⟩ := h
  refine ⟨vs.take k, ?_, h2.take k, fun h0 => h3 (by rintro rfl; simp at h0)⟩
  rcases h1 with h | ⟨b, off, rfl, hc⟩
  · exact .inl (by rw [h]; simp)
  · refine .inr ⟨b, off, rfl, fun i u hu => hc i u ?_⟩
    rw [List.getElem?_take] at hu
    split at hu
    · exact hu
    · cases hu
/-- One of them. -/
theorem LL.at {w : World} {F : List Nat} {a : Option Addr} {L : List (List Nat)} (h : LL w F a L) {i : Nat} (hi : i < L.length) :
    ∃ b off, a = some ⟨b, off, none⟩ ∧ ∃ ai ci, w.cell? ⟨b, off + i, none⟩ = some (.slice ai (L.getD i []).length ci) ∧ Bytes w ai (L.getD i []) ∧ (L.getD i [] ≠ [] → ∀ x, ai = some x → x.block ∉ F) ∧ (ai = none → ci = 0) := by
  obtain ⟨vs, h1, h2, h3⟩ := h
  obtain ⟨ai, ci, e1, e2, e3⟩ := h2.ent i hi
  rcases h1 with h | ⟨b, off, rfl, hc⟩
  · rw [h] at e1; simp at e1
  · exact ⟨b, off, rfl, ai, ci, hc i _ e1, e2, e3⟩
theorem LL.byte {w : World} {F : List Nat} {a : Option Addr} {L : List (List Nat)} (h : LL w F a L) {l : List Nat} (hl : l ∈ L) : ∀ c ∈ l, c < 256 := by
  obtain ⟨i, hi, rfl⟩ := List.getElem_of_mem hl
  obtain ⟨_, _, _, _, _, _, hb, _⟩ := h.at hi
  simpa [List.getD, hi] using hb.1

/-- A row of the call's own of slices of bytes. -/
structure OwnL (w : World) (base : Nat) (e : TypeId) (F : List Nat) (a : Option Addr) (cap : Nat) (L : List (List Nat)) (vs : List Value) : Prop where
  own : w.ownsRow base e 1 (.slice a L.length cap) L.length vs
  ents : Ents w (blk a ++ F) vs L
  away : ∀ g ∈ blk a, g ∉ F
section
variable {w w' : World} {base : Nat} {e : TypeId} {F F' S : List Nat} {a : Option Addr} {cap : Nat} {L : List (List Nat)} {vs : List Value}
theorem OwnL.nil (w : World) (base : Nat) (e : TypeId) (F : List Nat) : OwnL w base e F none 0 [] [] := ⟨World.ownsRow_nil _ _ _ _, Ents.nil _ _, by simp⟩
theorem OwnL.blk_lt (h : OwnL w base e F a cap L vs) : ∀ g ∈ blk a, base ≤ g ∧ g < w.heap.size := by
  intro g hg
  obtain ⟨x, rfl, rfl⟩ := mem_blk.1 hg
  exact World.ownsRow.lt h.own x.block rfl
theorem OwnL.keep (h : OwnL w base e F a cap L vs) (hf : Frm S w w') (hS : ∀ x ∈ S, x ∈ F ∨ w.heap.size ≤ x) (hF : ∀ x ∈ F', x ∈ F ∨ w.heap.size ≤ x) : OwnL w' base e F' a cap L vs := by
  have hb := h.blk_lt
  refine ⟨hf.own h.own (fun g hg hm => ?_), h.ents.keep hf (fun x hx => ?_) (fun x hx => ?_), fun g hg hm => ?_⟩
  · have hg' : g ∈ blk a := by
      cases a with
      | none => simp [Value.ownBlock] at hg
      | some y => simpa [Value.ownBlock, eq_comm] using hg
    rcases hS g hm with h1 | h1
    · exact h.away g hg' h1
    · have := (hb g hg').2; omega
  · rcases hS x hx with h1 | h1
    · exact .inl (by simp [h1])
    · exact .inr h1
  · rcases List.mem_append.1 hx with h1 | h1
    · exact .inl (by simp [h1])
    · rcases hF x h1 with h2 | h2
      · exact .inl (by simp [h2])
      · exact .inr h2
  · rcases hF g hm with h1 | h1
    · exact h.away g hg h1
    · have := (hb g hg).2; omega
theorem OwnL.ll (h : OwnL w base e F a cap L vs) : LL w F a L := by
  refine ⟨vs, ?_, h.ents.keep (S := []) (Frm.refl _ _) (by simp) (fun x hx => .inl (by simp [hx])), fun _ x hx => h.away x.block (by rw [hx]; simp)⟩
  by_cases h0 : vs = []
  · exact .inl h0
  · rcases h.own.2 with ⟨_, hl⟩ | ⟨g, c, cur, hv, _⟩
    · exact absurd (List.eq_nil_of_length_eq_zero (by rw [h.ents.len, hl])) h0
    · simp only [Value.slice.injEq] at hv
      obtain ⟨rfl, _, rfl⟩ := hv
      refine .inr ⟨g, 0, rfl, fun i u hu => ?_⟩
      have hi : i < vs.length := by
        rcases Nat.lt_or_ge i vs.length with h' | h'
        · exact h'
        · rw [List.getElem?_eq_none h'] at hu; cases hu
      rw [Nat.zero_add, World.ownsRow.cellAt h.own i (by rw [Nat.mul_one, ← h.ents.len]; exact hi)]
      exact hu
theorem OwnL.caps (h : OwnL w base e F a cap L vs) : L.length ≤ cap ∧ cap ≤ maxLen ∧ (a = none → cap = 0) := by
  rcases h.own.2 with ⟨hv, hl⟩ | ⟨g, c, cur, hv, _, _, h1, h2, _⟩
  · simp only [Value.slice.injEq] at hv
    rw [hl, hv.2.2]; exact ⟨Nat.le_refl _, Nat.zero_le _, fun _ => rfl⟩
  · simp only [Value.slice.injEq] at hv
    obtain ⟨rfl, _, rfl⟩ := hv
    exact ⟨h1, h2, fun h => by cases h⟩
/-- What is appended lies neither in the row's block nor in F. -/
theorem OwnL.app {n m : Nat} {us : List Value} {M : List (List Nat)} {a' : Option Addr} {cap' : Nat} (h : OwnL w base e F a cap L vs) (hn : n = L.length) (k : Ents w (blk a ++ F) us M) (hm : m = M.length) (hF : ∀ x ∈ F, x < w.heap.size)
    (ha : AppV w w' base e (.slice a n cap) n m vs us a' cap') : OwnL w' base e F a' cap' (L ++ M) (vs ++ us) ∧ Frm (blk a) w w' ∧ (∀ g ∈ blk a', g ∈ blk a ∨ w.heap.size ≤ g) ∧ n + m = (L ++ M).length := by
  subst hn; subst hm
  have hown : ∀ g, (Value.slice a L.length cap).ownBlock = some g → g ∈ blk a := by
    intro g hg
    cases a with
    | none => simp [Value.ownBlock] at hg
    | some y => simpa [Value.ownBlock, eq_comm] using hg
  have hf : Frm (blk a) w w' := (Frm.refl _ _).grown ha.grown (fun g hg => .inl (hown g hg))
  have hp : ∀ g ∈ blk a', g ∈ blk a ∨ w.heap.size ≤ g := by
    intro g hg
    have hg' : (Value.slice a' (L.length + M.length) cap').ownBlock = some g := by
      obtain ⟨x, rfl, rfl⟩ := mem_blk.1 hg
      rfl
    rcases ha.place with h1 | h1
    · exact .inl (hown g (h1 ▸ hg'))
    · rw [hg'] at h1
      cases h1
      exact .inr (Nat.le_refl _)
  refine ⟨⟨?_, ?_, fun g hg hm => ?_⟩, hf, hp, by simp⟩
  · have := ha.own
    rwa [List.length_append]
  · refine (h.ents.append k).keep hf (fun x hx => .inl (by simp [hx])) (fun x hx => ?_)
    rcases List.mem_append.1 hx with h1 | h1
    · rcases hp x h1 with h2 | h2
      · exact .inl (by simp [h2])
      · exact .inr h2
    · exact .inl (by simp [h1])
  · rcases hp g hg with h1 | h1
    · exact h.away g h1 hm
    · have := hF g hm; omega
end
/-- A slice of slices of bytes that came in. -/
structure LIn (w : World) (a : Option Addr) (cap : Nat) (L : List (List Nat)) : Prop where
  ll : LL w [] a L
  nil : a = none → cap = 0
/-- A slice of bools that came in. -/
def BIn (w : World) (a : Option Addr) (bs : List Bool) : Prop := ∀ i, i < bs.length → ∃ b off, a = some ⟨b, off, none⟩ ∧ w.cell? ⟨b, off + i, none⟩ = some (.bool (bs.getD i false))
theorem BIn.keep {w w' : World} {a : Option Addr} {bs : List Bool} (h : BIn w a bs) (hf : Frm [] w w') : BIn w' a bs := fun i hi => by
  obtain ⟨b, off, h1, h2⟩ := h i hi
  exact ⟨b, off, h1, (hf.cell (p := ⟨b, off + i, none⟩) (block_lt_of_cell h2) (by simp)).trans h2⟩
end Go.Proofs.Ytahhkffghhgojaa
/- Rows of the call's own of elements of several cells each; appending cells to them, also to a slice without spare room. They speak of no program. -/
namespace Go.Proofs.Ytahhkffghhgojaa
open Go.RowKit

section
variable {P : Program} {w : World}
/-- What appending the cells us (m elements) to an owned value leaves. -/
structure AppS (w w' : World) (base : Nat) (e : TypeId) (sz : Nat) (v : Value) (n m : Nat) (xs us : List Value) (a' : Option Addr) (cap' : Nat) : Prop where
  own : w'.ownsRow base e sz (.slice a' (n + m) cap') (n + m) (xs ++ us)
  grown : w.grownBy w' v.ownBlock
  place : (Value.slice a' (n + m) cap').ownBlock = v.ownBlock ∨ (Value.slice a' (n + m) cap').ownBlock = some w.heap.size
theorem slice_shape {w : World} {base : Nat} {e : TypeId} {sz n : Nat} {v : Value} {xs : List Value} (h : w.ownsRow base e sz v n xs) : ∃ a cap, v = .slice a n cap := by
  rcases h.2 with ⟨hv, h0⟩ | ⟨g, cap', cur, hv, _⟩
  · exact ⟨none, 0, by rw [hv, h0]⟩
  · exact ⟨_, cap', hv⟩

theorem run_appS (base : Nat) (t ty e : TypeId) (i : TypeInfo) (z : Value) (sz by' : Nat) (ht : P.underlying t = some (.slice e)) (hi : P.info? e = some i) (hz : i.zero = some z) (hz1 : z.cells.size = sz) (hsz : 0 < sz)
    (hsize : i.size = sz) (hby : i.bytes = by') (hb : by' ≤ 100) (v : Value) (n : Nat) (xs : List Value) (hown : w.ownsRow base e sz v n xs)
    (ad : Option Addr) (m c : Nat) (us : List Value) (hB : ValsAt w ad us) (hm : us.length = m * sz) (hone : ∀ u ∈ us, u.oneCell' = true) (hnil : ad = none → c = 0)
    (hfit : n + m ≤ 1000000000) (hbase : base ≤ w.heap.size) :
    ∃ a' cap' w', (Builtin.append_ #[t, t] ty #[v, .slice ad m c]).run P w = .ok (.slice a' (n + m) cap') w' ∧ AppS w w' base e sz v n m xs us a' cap' := by
  cases ad with
  | none =>
    have hc0 := hnil rfl
    subst hc0
    have hl0 : us = [] := by
      rcases hB with h | ⟨_, _, h, _⟩
      · exact h
      · cases h
    subst hl0
    have hm0 : m = 0 := by
      rcases Nat.eq_zero_or_pos m with h | h
      · exact h
      · have := Nat.mul_pos h hsz; simp at hm; omega
    subst hm0
    obtain ⟨a', cap', hv⟩ := slice_shape hown
    subst hv
    exact ⟨a', cap', w, run_append_owned_none (P := P) (w := w) base t ty e i sz ht hi _ n xs hown, by simpa using hown, World.grownBy.refl _ _, .inl rfl⟩
  | some x =>
    have hnews : ∀ j u, us[j]? = some u → w.cell? (x.add j) = some u := by
      rcases hB with h | ⟨b, off, h, hh⟩
      · subst h; intro j u hu; simp at hu
      · cases h
        intro j u hu
        rw [addr_add]
        exact hh j u hu
    obtain ⟨v', w', hr, ho, hg, _, hpl⟩ := run_append_own_at (P := P) w base t ty e i z sz by' ht hi hz hsize hby hz1 hsz v n xs hown x m c us hm hnews hone (by unfold maxLen; omega)
      (by have := Nat.mul_le_mul hfit hb; omega) hbase
    obtain ⟨a', cap', hv⟩ := slice_shape ho
    subst hv
    exact ⟨a', cap', w', hr, ho, hg, hpl⟩

theorem wpList_appS {ops : Array Oper} {rest : List Oper} {o : Oper} {a : Act} {Q : Exit → Act → World → Prop} (hw : Region.wanted o (yielded ops a.tmps) = true) (s x : Operand) (t : TypeId)
    (ho : o.op = .call { callee := .builtin .append, args := #[s, x], argTypes := #[t, t] })
    (base : Nat) (e : TypeId) (i : TypeInfo) (z : Value) (sz by' : Nat) (ht : P.underlying t = some (.slice e)) (hi : P.info? e = some i) (hz : i.zero = some z) (hz1 : z.cells.size = sz) (hsz : 0 < sz)
    (hsize : i.size = sz) (hby : i.bytes = by') (hb : by' ≤ 100) (v : Value) (n : Nat) (xs : List Value) (hs : a.eval s = v) (hown : w.ownsRow base e sz v n xs)
    (ad : Option Addr) (m c : Nat) (us : List Value) (hx : a.eval x = .slice ad m c) (hB : ValsAt w ad us) (hm : us.length = m * sz) (hone : ∀ u ∈ us, u.oneCell' = true) (hnil : ad = none → c = 0)
    (hfit : n + m ≤ 1000000000) (hbase : base ≤ w.heap.size)
    (h : ∀ a' cap' w', AppS w w' base e sz v n m xs us a' cap' → wpList P ops Q rest (a.put o.dst (.slice a' (n + m) cap')) w') : wpList P ops Q (o :: rest) a w := by
  refine wpList_step fun K hK => ?_
  rw [if_pos hw]
  obtain ⟨a', cap', w', hr, h2⟩ := run_appS (P := P) base t o.type e i z sz by' ht hi hz hz1 hsz hsize hby hb v n xs hown ad m c us hB hm hone hnil hfit hbase
  unfold Oper.wp execOp
  simp only [ho, resolve, invoke, builtin, Sem.run_bind, Sem.run_pure, Result.andThen_ok, List.map_toArray, List.map_cons, List.map_nil, hs, hx, hr]
  exact hK _ _ (h a' cap' w' h2)

theorem step_appS {ops : Array Oper} {o : Oper} {a : Act} {K : Act → World → Prop} {Q : Exit → Act → World → Prop} {E : Prop} (hw : Region.wanted o (yielded ops a.tmps) = true) (s x : Operand) (t : TypeId)
    (ho : o.op = .call { callee := .builtin .append, args := #[s, x], argTypes := #[t, t] })
    (base : Nat) (e : TypeId) (i : TypeInfo) (z : Value) (sz by' : Nat) (ht : P.underlying t = some (.slice e)) (hi : P.info? e = some i) (hz : i.zero = some z) (hz1 : z.cells.size = sz) (hsz : 0 < sz)
    (hsize : i.size = sz) (hby : i.bytes = by') (hb : by' ≤ 100) (v : Value) (n : Nat) (xs : List Value) (hs : a.eval s = v) (hown : w.ownsRow base e sz v n xs)
    (ad : Option Addr) (m c : Nat) (us : List Value) (hx : a.eval x = .slice ad m c) (hB : ValsAt w ad us) (hm : us.length = m * sz) (hone : ∀ u ∈ us, u.oneCell' = true) (hnil : ad = none → c = 0)
    (hfit : n + m ≤ 1000000000) (hbase : base ≤ w.heap.size) (k : Nat) (hk : n + m = k)
    (h : ∀ a' cap' w', AppS w w' base e sz v n m xs us a' cap' → K (a.put o.dst (.slice a' k cap')) w') :
    if Region.wanted o (yielded ops a.tmps) = true then Oper.wp P o a w K Q else E := by
  subst hk
  rw [if_pos hw]
  obtain ⟨a', cap', w', hr, h2⟩ := run_appS (P := P) base t o.type e i z sz by' ht hi hz hz1 hsz hsize hby hb v n xs hown ad m c us hB hm hone hnil hfit hbase
  unfold Oper.wp execOp
  simp only [ho, resolve, invoke, builtin, Sem.run_bind, Sem.run_pure, Result.andThen_ok, List.map_toArray, List.map_cons, List.map_nil, hs, hx, hr]
  exact h a' cap' w' h2

/-- Appending something to a slice without spare room: a row of the call's own, the slice as it was. -/
theorem run_appT (base : Nat) (t ty e : TypeId) (i : TypeInfo) (z : Value) (sz by' : Nat) (ht : P.underlying t = some (.slice e)) (hi : P.info? e = some i) (hz : i.zero = some z) (hz1 : z.cells.size = sz) (hsz : 0 < sz)
    (hsize : i.size = sz) (hby : i.bytes = by') (hb : by' ≤ 100) (sa : Option Addr) (n : Nat) (xs : List Value) (hS : ValsAt w sa xs) (hxn : xs.length = n * sz)
    (ad : Option Addr) (m c : Nat) (us : List Value) (hB : ValsAt w ad us) (hm : us.length = m * sz) (hone : ∀ u ∈ us, u.oneCell' = true) (hm0 : 0 < m)
    (hfit : n + m ≤ 1000000000) (hbase : base ≤ w.heap.size) (hnil : sa = none → n = 0) :
    ∃ a' cap' w', (Builtin.append_ #[t, t] ty #[.slice sa n n, .slice ad m c]).run P w = .ok (.slice a' (n + m) cap') w' ∧ w'.ownsRow base e sz (.slice a' (n + m) cap') (n + m) (xs ++ us) ∧ Frm [] w w' ∧ ∀ g ∈ blk a', w.heap.size ≤ g := by
  have hune : us ≠ [] := by
    intro h0
    have := Nat.mul_pos hm0 hsz
    rw [h0] at hm; simp at hm; omega
  obtain ⟨b, off, rfl, hh⟩ : ∃ b off, ad = some ⟨b, off, none⟩ ∧ ∀ i u, us[i]? = some u → w.cell? ⟨b, off + i, none⟩ = some u := by
    rcases hB with h | h
    · exact absurd h hune
    · exact h
  have hnews : ∀ j u, us[j]? = some u → w.cell? ((⟨b, off, none⟩ : Addr).add j) = some u := fun j u hu => by rw [addr_add]; exact hh j u hu
  cases sa with
  | none =>
    have hn0 := hnil rfl
    subst hn0
    have hx0 : xs = [] := List.eq_nil_of_length_eq_zero (by simpa using hxn)
    subst hx0
    obtain ⟨a', cap', w', hr, h⟩ := run_appS (P := P) base t ty e i z sz by' ht hi hz hz1 hsz hsize hby hb (.slice none 0 0) 0 [] (World.ownsRow_nil w base e sz) (some ⟨b, off, none⟩) m c us (.inr ⟨b, off, rfl, hh⟩) hm hone (fun h => by cases h) hfit hbase
    refine ⟨a', cap', w', hr, h.own, (Frm.refl _ _).grown h.grown (fun k hk => by simp [Value.ownBlock] at hk), fun g hg => ?_⟩
    obtain ⟨y, rfl, rfl⟩ := mem_blk.1 hg
    rcases h.place with h | h <;> simp [Value.ownBlock] at h
    omega
  | some y =>
    have holds : ∀ j u, xs[j]? = some u → w.cell? (y.add j) = some u := by
      rcases hS with h | ⟨b', off', h, hc⟩
      · subst h; intro j u hu; simp at hu
      · cases h
        intro j u hu
        rw [addr_add]
        exact hc j u hu
    obtain ⟨v', w', hr, ho, hgr⟩ := run_append_arg_grows (P := P) w t ty e i z sz by' ht hi hz hsize hby hz1 hsz y n n xs hxn holds ⟨b, off, none⟩ m c us hm hnews (by omega) (by unfold maxLen; omega) (by have := Nat.mul_le_mul hfit hb; omega)
    obtain ⟨a', cap', hv⟩ := slice_shape ho
    subst hv
    have hlt := World.ownsRow.lt ho
    refine ⟨a', cap', w', hr, ⟨ho.1, ?_⟩, (Frm.refl _ _).grown hgr (fun k hk => by cases hk), fun g hg => ?_⟩
    · rcases ho.2 with h | ⟨g, cap, cur, hv, hb', r⟩
      · exact .inl h
      · exact .inr ⟨g, cap, cur, hv, by omega, r⟩
    · obtain ⟨q, rfl, rfl⟩ := mem_blk.1 hg
      exact (hlt q.block rfl).1

theorem step_appT {ops : Array Oper} {o : Oper} {a : Act} {K : Act → World → Prop} {Q : Exit → Act → World → Prop} {E : Prop} (hw : Region.wanted o (yielded ops a.tmps) = true) (s x : Operand) (t : TypeId)
    (ho : o.op = .call { callee := .builtin .append, args := #[s, x], argTypes := #[t, t] })
    (base : Nat) (e : TypeId) (i : TypeInfo) (z : Value) (sz by' : Nat) (ht : P.underlying t = some (.slice e)) (hi : P.info? e = some i) (hz : i.zero = some z) (hz1 : z.cells.size = sz) (hsz : 0 < sz)
    (hsize : i.size = sz) (hby : i.bytes = by') (hb : by' ≤ 100) (sa : Option Addr) (n : Nat) (xs : List Value) (hs : a.eval s = .slice sa n n) (hS : ValsAt w sa xs) (hxn : xs.length = n * sz)
    (ad : Option Addr) (m c : Nat) (us : List Value) (hx : a.eval x = .slice ad m c) (hB : ValsAt w ad us) (hm : us.length = m * sz) (hone : ∀ u ∈ us, u.oneCell' = true) (hm0 : 0 < m)
    (hfit : n + m ≤ 1000000000) (hbase : base ≤ w.heap.size) (hnil : sa = none → n = 0) (k : Nat) (hk : n + m = k)
    (h : ∀ a' cap' w', w'.ownsRow base e sz (.slice a' k cap') k (xs ++ us) → Frm [] w w' → (∀ g ∈ blk a', w.heap.size ≤ g) → K (a.put o.dst (.slice a' k cap')) w') :
    if Region.wanted o (yielded ops a.tmps) = true then Oper.wp P o a w K Q else E := by
  subst hk
  rw [if_pos hw]
  obtain ⟨a', cap', w', hr, h2, h3, h4⟩ := run_appT (P := P) base t o.type e i z sz by' ht hi hz hz1 hsz hsize hby hb sa n xs hS hxn ad m c us hB hm hone hm0 hfit hbase hnil
  unfold Oper.wp execOp
  simp only [ho, resolve, invoke, builtin, Sem.run_bind, Sem.run_pure, Result.andThen_ok, List.map_toArray, List.map_cons, List.map_nil, hs, hx, hr]
  exact h a' cap' w' h2 h3 h4
end
end Go.Proofs.Ytahhkffghhgojaa
/- A row of the call's own, as it reads. It speaks of no program. -/
namespace Go.Proofs.Ytahhkffghhgojaa
open Go.RowKit

/-- A row of the call's own, as it reads. -/
theorem own_vals {w : World} {base : Nat} {e : TypeId} {sz n cap : Nat} {a : Option Addr} {xs : List Value} (h : w.ownsRow base e sz (.slice a n cap) n xs) : ValsAt w a xs := by
  rcases h.2 with ⟨_, hl⟩ | ⟨g, c, cur, hv, _⟩
  · left
    have := h.1
    rw [hl] at this
    exact List.eq_nil_of_length_eq_zero (by omega)
  · simp only [Value.slice.injEq] at hv
    obtain ⟨rfl, _, rfl⟩ := hv
    refine .inr ⟨g, 0, rfl, fun i u hu => ?_⟩
    have hi : i < xs.length := by
      rcases Nat.lt_or_ge i xs.length with h' | h'
      · exact h'
      · rw [List.getElem?_eq_none h'] at hu; cases hu
    rw [Nat.zero_add, World.ownsRow.cellAt h i (by rw [← h.1]; exact hi)]
    exact hu
end Go.Proofs.Ytahhkffghhgojaa
/- Lists of sessions (an Id, an end, a life): what they read as, rows of the call's own of them, pieces. They speak of no program. (For stage 7.) -/
namespace Go.Proofs.Ytahhkffghhgojaa
open Go.RowKit

/-- A session. -/
structure Sn where
  id : Nat := 0
  ends : Nat := 0
  life : Nat := 0
instance : Inhabited Sn := ⟨{}⟩
def Sn.cells (x : Sn) : List Value := [.int .u64 (x.id : Nat), .int .u64 (x.ends : Nat), .int .u64 (x.life : Nat)]
def Sn.val (x : Sn) : Value := .agg #[.int .u64 (x.id : Nat), .int .u64 (x.ends : Nat), .int .u64 (x.life : Nat)]
def Sn.fits (x : Sn) : Prop := x.id < 18446744073709551616 ∧ x.ends < 18446744073709551616 ∧ x.life < 18446744073709551616
def snc (X : List Sn) : List Value := X.flatMap Sn.cells
theorem snc_append (X Y : List Sn) : snc (X ++ Y) = snc X ++ snc Y := by simp [snc]
theorem snc_cons (x : Sn) (X : List Sn) : snc (x :: X) = x.cells ++ snc X := rfl
theorem snc_length (X : List Sn) : (snc X).length = X.length * 3 := by
  induction X with
  | nil => rfl
  | cons x X ih => rw [snc_cons, List.length_append, ih, List.length_cons]; simp [Sn.cells]; omega
theorem snc_at (X : List Sn) : ∀ i, i < X.length → (snc X)[i * 3]? = some (.int .u64 ((X.getD i default).id : Nat)) ∧ (snc X)[i * 3 + 1]? = some (.int .u64 ((X.getD i default).ends : Nat)) ∧ (snc X)[i * 3 + 2]? = some (.int .u64 ((X.getD i default).life : Nat)) := by
  induction X with
  | nil => intro i hi; simp at hi
  | cons x X ih =>
    intro i hi
    have e : snc (x :: X) = .int .u64 (x.id : Nat) :: .int .u64 (x.ends : Nat) :: .int .u64 (x.life : Nat) :: snc X := rfl
    rw [e]
    rcases i with _ | i
    · exact ⟨rfl, rfl, rfl⟩
    · have := ih i (by simpa using hi)
      have h1 : (i + 1) * 3 = i * 3 + 1 + 1 + 1 := by omega
      rw [h1]
      simpa using this
theorem snc_take (X : List Sn) (n : Nat) : snc (X.take n) = (snc X).take (n * 3) := by
  induction X generalizing n with
  | nil => simp [snc]
  | cons x X ih =>
    rcases n with _ | n
    · simp [snc]
    · rw [List.take_succ_cons, snc_cons, snc_cons, ih, show (n + 1) * 3 = x.cells.length + n * 3 by simp [Sn.cells]; omega, List.take_length_add_append]
theorem snc_drop (X : List Sn) (n : Nat) : snc (X.drop n) = (snc X).drop (n * 3) := by
  induction X generalizing n with
  | nil => simp [snc]
  | cons x X ih =>
    rcases n with _ | n
    · simp [snc]
    · rw [List.drop_succ_cons, snc_cons, ih, show (n + 1) * 3 = x.cells.length + n * 3 by simp [Sn.cells]; omega, ← List.drop_drop, List.drop_left' rfl]
theorem snc_ne {X : List Sn} (h : snc X ≠ []) : X ≠ [] := by rintro rfl; exact h rfl
theorem snc_ne' {X : List Sn} (h : X ≠ []) : snc X ≠ [] := by
  intro e
  have := snc_length X
  rw [e] at this
  have := List.length_pos_iff.2 h
  simp at *; omega

/-- A slice of sessions, as it reads; it lies outside the blocks F. -/
structure SL (w : World) (F : List Nat) (a : Option Addr) (X : List Sn) : Prop where
  vals : ValsAt w a (snc X)
  fits : ∀ x ∈ X, x.fits
  away : X ≠ [] → ∀ q, a = some q → q.block ∉ F
theorem SL.nil (w : World) (F : List Nat) (a : Option Addr) : SL w F a [] := ⟨.inl rfl, by simp, fun h => absurd rfl h⟩
theorem valsAt_lt {w : World} {a : Option Addr} {us : List Value} (h : ValsAt w a us) (hne : us ≠ []) : ∀ q, a = some q → q.block < w.heap.size := by
  intro q hq
  rcases h with h | ⟨b, off, rfl, hc⟩
  · exact absurd h hne
  · cases hq
    cases us with
    | nil => exact absurd rfl hne
    | cons v vs => exact block_lt_of_cell (a := ⟨b, off + 0, none⟩) (hc 0 v rfl)
theorem SL.keep {w w' : World} {F F' S : List Nat} {a : Option Addr} {X : List Sn} (h : SL w F a X) (hf : Frm S w w') (hS : ∀ x ∈ S, x ∈ F ∨ w.heap.size ≤ x) (hF : ∀ x ∈ F', x ∈ F ∨ w.heap.size ≤ x) : SL w' F' a X := by
  refine ⟨h.vals.keep hf (fun hne q hq hm => ?_), h.fits, fun hne q hq hm => ?_⟩
  · rcases hS _ hm with h1 | h1
    · exact h.away (snc_ne hne) q hq h1
    · have := valsAt_lt h.vals hne q hq; omega
  · rcases hF _ hm with h1 | h1
    · exact h.away hne q hq h1
    · have := valsAt_lt h.vals (snc_ne' hne) q hq; omega
theorem SL.at {w : World} {F : List Nat} {a : Option Addr} {X : List Sn} (h : SL w F a X) {i : Nat} (hi : i < X.length) :
    ∃ b off, a = some ⟨b, off, none⟩ ∧ w.cell? ⟨b, off + i * 3, none⟩ = some (.int .u64 ((X.getD i default).id : Nat)) ∧ w.cell? ⟨b, off + i * 3 + 1, none⟩ = some (.int .u64 ((X.getD i default).ends : Nat)) ∧
      w.cell? ⟨b, off + i * 3 + 2, none⟩ = some (.int .u64 ((X.getD i default).life : Nat)) ∧ (X.getD i default).fits := by
  obtain ⟨h0, h1, h2⟩ := snc_at X i hi
  have hm : X.getD i default ∈ X := by simp [hi]
  rcases h.vals with h' | ⟨b, off, rfl, hc⟩
  · rw [h'] at h0; simp at h0
  · exact ⟨b, off, rfl, hc _ _ h0, by rw [Nat.add_assoc]; exact hc _ _ h1, by rw [Nat.add_assoc]; exact hc _ _ h2, h.fits _ hm⟩
theorem SL.take {w : World} {F : List Nat} {a : Option Addr} {X : List Sn} (h : SL w F a X) (n : Nat) : SL w F a (X.take n) := by
  refine ⟨?_, fun x hx => h.fits x (List.mem_of_mem_take hx), fun hne => h.away (by rintro rfl; simp at hne)⟩
  rw [snc_take]
  rcases h.vals with h' | ⟨b, off, rfl, hc⟩
  · exact .inl (by rw [h']; simp)
  · refine .inr ⟨b, off, rfl, fun i u hu => hc i u ?_⟩
    rw [List.getElem?_take] at hu
    split at hu
    · exact hu
    · cases hu
/-- The address of what is left of a slice of elements of three cells each. -/
def cut3 (a : Option Addr) (cap lo : Nat) : Option Addr := if cap = lo then a else a.map (·.add (lo * 3))
theorem SL.drop {w : World} {F : List Nat} {a : Option Addr} {X : List Sn} {cap : Nat} (h : SL w F a X) (hc : X.length ≤ cap) (lo : Nat) : SL w F (cut3 a cap lo) (X.drop lo) := by
  unfold cut3
  by_cases hlo : cap = lo
  · rw [if_pos hlo, List.drop_eq_nil_of_le (by omega)]; exact SL.nil _ _ _
  · rw [if_neg hlo]
    refine ⟨?_, fun x hx => h.fits x (List.mem_of_mem_drop hx), fun hne q hq hm => ?_⟩
    · rw [snc_drop]
      rcases h.vals with h' | ⟨b, off, rfl, hcc⟩
      · exact .inl (by rw [h']; simp)
      · refine .inr ⟨b, off + lo * 3, by simp [addr_add], fun i u hu => ?_⟩
        rw [List.getElem?_drop] at hu
        rw [Nat.add_assoc]
        exact hcc _ _ hu
    · cases a with
      | none => cases hq
      | some y =>
        simp at hq
        subst hq
        exact h.away (by rintro rfl; simp at hne) y rfl (by unfold Addr.add at hm; split at hm <;> exact hm)
/-- A row of the call's own of sessions. -/
structure SOwn (w : World) (base : Nat) (e : TypeId) (F : List Nat) (a : Option Addr) (cap : Nat) (X : List Sn) : Prop where
  own : w.ownsRow base e 3 (.slice a X.length cap) X.length (snc X)
  fits : ∀ x ∈ X, x.fits
  away : ∀ g ∈ blk a, g ∉ F
section
variable {w w' : World} {base : Nat} {e : TypeId} {F F' S : List Nat} {a : Option Addr} {cap : Nat} {X : List Sn}
theorem SOwn.nil (w : World) (base : Nat) (e : TypeId) (F : List Nat) : SOwn w base e F none 0 [] := ⟨World.ownsRow_nil _ _ _ _, by simp, by simp⟩
theorem ownBlk3 {a : Option Addr} {n c g : Nat} : (Value.slice a n c).ownBlock = some g ↔ g ∈ blk a := by cases a <;> simp [Value.ownBlock, eq_comm]
theorem SOwn.blk_lt (h : SOwn w base e F a cap X) : ∀ g ∈ blk a, base ≤ g ∧ g < w.heap.size := fun g hg => World.ownsRow.lt h.own g (ownBlk3.2 hg)
theorem SOwn.keep (h : SOwn w base e F a cap X) (hf : Frm S w w') (hS : ∀ x ∈ S, x ∈ F ∨ w.heap.size ≤ x) (hF : ∀ x ∈ F', x ∈ F ∨ w.heap.size ≤ x) : SOwn w' base e F' a cap X := by
  have hb := h.blk_lt
  refine ⟨hf.own h.own (fun g hg hm => ?_), h.fits, fun g hg hm => ?_⟩
  · rcases hS g hm with h1 | h1
    · exact h.away g (ownBlk3.1 hg) h1
    · have := (hb g (ownBlk3.1 hg)).2; omega
  · rcases hF g hm with h1 | h1
    · exact h.away g hg h1
    · have := (hb g hg).2; omega
theorem SOwn.sl (h : SOwn w base e F a cap X) : SL w F a X := ⟨own_vals h.own, h.fits, fun _ q hq => h.away q.block (by rw [hq]; simp)⟩
theorem SOwn.caps (h : SOwn w base e F a cap X) : X.length ≤ cap ∧ cap ≤ maxLen ∧ (a = none → cap = 0) := by
  rcases h.own.2 with ⟨hv, hl⟩ | ⟨g, c, cur, hv, _, _, h1, h2, _⟩
  · simp only [Value.slice.injEq] at hv
    rw [hl, hv.2.2]; exact ⟨Nat.le_refl _, Nat.zero_le _, fun _ => rfl⟩
  · simp only [Value.slice.injEq] at hv
    obtain ⟨rfl, _, rfl⟩ := hv
    exact ⟨h1, h2, fun h => by cases h⟩
/-- What is appended. -/
theorem SOwn.app {n m : Nat} {Y : List Sn} {a' : Option Addr} {cap' : Nat} (h : SOwn w base e F a cap X) (hn : n = X.length) (k : ∀ y ∈ Y, y.fits) (hm : m = Y.length) (hF : ∀ x ∈ F, x < w.heap.size)
    (ha : AppS w w' base e 3 (.slice a n cap) n m (snc X) (snc Y) a' cap') : SOwn w' base e F a' cap' (X ++ Y) ∧ Frm (blk a) w w' ∧ (∀ g ∈ blk a', g ∈ blk a ∨ w.heap.size ≤ g) ∧ n + m = (X ++ Y).length := by
  subst hn; subst hm
  have hf : Frm (blk a) w w' := (Frm.refl _ _).grown ha.grown (fun g hg => .inl (ownBlk3.1 hg))
  have hp : ∀ g ∈ blk a', g ∈ blk a ∨ w.heap.size ≤ g := by
    intro g hg
    have hg' : (Value.slice a' (X.length + Y.length) cap').ownBlock = some g := ownBlk3.2 hg
    rcases ha.place with h1 | h1
    · exact .inl (ownBlk3.1 (h1 ▸ hg'))
    · rw [hg'] at h1
      cases h1
      exact .inr (Nat.le_refl _)
  refine ⟨⟨?_, fun x hx => (List.mem_append.1 hx).elim (h.fits x) (k x), fun g hg hm => ?_⟩, hf, hp, by simp⟩
  · have := ha.own
    rwa [← snc_append, ← List.length_append] at this
  · rcases hp g hg with h1 | h1
    · exact h.away g h1 hm
    · have := hF g hm; omega
end
section
variable {P : Program} {t e : TypeId}
end
/-- The document's Book in plain words: at most 2^64 - 1; a session's place. -/
def sumU (a b : Nat) : Nat := if a + b < 18446744073709551616 then a + b else 18446744073709551615
def atS (X : List Sn) (id : Nat) : Nat := X.findIdx (fun x => decide (x.id = id))
end Go.Proofs.Ytahhkffghhgojaa
/- Rows of Ln: what they read as, rows of the call's own of them, pieces. They speak of no program. -/
namespace Go.Proofs.Ytahhkffghhgojaa
open Go.RowKit

/-- One. -/
structure Ln where
  nm : ByteArray := ⟨#[]⟩
  top : Nat := 0
  done : Nat := 0
  l : Nat := 0
  e : Nat := 0
deriving DecidableEq
instance : Inhabited Ln := ⟨{}⟩
def Ln.cells (x : Ln) : List Value := [.string x.nm, .int .u64 (x.top : Nat), .int .u64 (x.done : Nat), .int .u64 (x.l : Nat), .int .u64 (x.e : Nat)]
def Ln.val (x : Ln) : Value := .agg #[.string x.nm, .int .u64 (x.top : Nat), .int .u64 (x.done : Nat), .int .u64 (x.l : Nat), .int .u64 (x.e : Nat)]
def Ln.fits (x : Ln) : Prop := x.top < 18446744073709551616 ∧ x.done < 18446744073709551616 ∧ x.l < 18446744073709551616 ∧ x.e < 18446744073709551616
def lnc (X : List Ln) : List Value := X.flatMap Ln.cells
theorem lnc_append (X Y : List Ln) : lnc (X ++ Y) = lnc X ++ lnc Y := by simp [lnc]
theorem lnc_cons (x : Ln) (X : List Ln) : lnc (x :: X) = x.cells ++ lnc X := rfl
theorem lnc_length (X : List Ln) : (lnc X).length = X.length * 5 := by
  induction X with
  | nil => rfl
  | cons x X ih => rw [lnc_cons, List.length_append, ih, List.length_cons]; simp [Ln.cells]; omega
theorem lnc_one (X : List Ln) : ∀ u ∈ lnc X, u.oneCell' = true := by
  intro u hu
  unfold lnc at hu
  simp only [List.mem_flatMap, Ln.cells] at hu
  obtain ⟨x, _, h⟩ := hu
  simp at h
  rcases h with h | h | h | h | h <;> subst h <;> rfl
theorem lnc_at (X : List Ln) : ∀ i, i < X.length → (lnc X)[i * 5]? = some (.string (X.getD i default).nm) ∧ (lnc X)[i * 5 + 1]? = some (.int .u64 ((X.getD i default).top : Nat)) ∧ (lnc X)[i * 5 + 2]? = some (.int .u64 ((X.getD i default).done : Nat)) ∧ (lnc X)[i * 5 + 3]? = some (.int .u64 ((X.getD i default).l : Nat)) ∧ (lnc X)[i * 5 + 4]? = some (.int .u64 ((X.getD i default).e : Nat)) := by
  induction X with
  | nil => intro i hi; simp at hi
  | cons x X ih =>
    intro i hi
    have e : lnc (x :: X) = .string x.nm :: .int .u64 (x.top : Nat) :: .int .u64 (x.done : Nat) :: .int .u64 (x.l : Nat) :: .int .u64 (x.e : Nat) :: lnc X := rfl
    rw [e]
    rcases i with _ | i
    · exact ⟨rfl, rfl, rfl, rfl, rfl⟩
    · have := ih i (by simpa using hi)
      have h1 : (i + 1) * 5 = i * 5 + 1 + 1 + 1 + 1 + 1 := by omega
      rw [h1]
      simpa using this
theorem lnc_take (X : List Ln) (n : Nat) : lnc (X.take n) = (lnc X).take (n * 5) := by
  induction X generalizing n with
  | nil => simp [lnc]
  | cons x X ih =>
    rcases n with _ | n
    · simp [lnc]
    · rw [List.take_succ_cons, lnc_cons, lnc_cons, ih, show (n + 1) * 5 = x.cells.length + n * 5 by simp [Ln.cells]; omega, List.take_length_add_append]
theorem lnc_drop (X : List Ln) (n : Nat) : lnc (X.drop n) = (lnc X).drop (n * 5) := by
  induction X generalizing n with
  | nil => simp [lnc]
  | cons x X ih =>
    rcases n with _ | n
    · simp [lnc]
    · rw [List.drop_succ_cons, lnc_cons, ih, show (n + 1) * 5 = x.cells.length + n * 5 by simp [Ln.cells]; omega, ← List.drop_drop, List.drop_left' rfl]
theorem lnc_ne {X : List Ln} (h : lnc X ≠ []) : X ≠ [] := by rintro rfl; exact h rfl
theorem lnc_ne' {X : List Ln} (h : X ≠ []) : lnc X ≠ [] := by
  intro e
  have := lnc_length X
  rw [e] at this
  have := List.length_pos_iff.2 h
  simp at *; omega

/-- A slice of sessions, as it reads; it lies outside the blocks F. -/
structure LnL (w : World) (F : List Nat) (a : Option Addr) (X : List Ln) : Prop where
  vals : ValsAt w a (lnc X)
  fits : ∀ x ∈ X, x.fits
  away : X ≠ [] → ∀ q, a = some q → q.block ∉ F
theorem LnL.nil (w : World) (F : List Nat) (a : Option Addr) : LnL w F a [] := ⟨.inl rfl, by simp, fun h => absurd rfl h⟩
theorem LnL.keep {w w' : World} {F F' S : List Nat} {a : Option Addr} {X : List Ln} (h : LnL w F a X) (hf : Frm S w w') (hS : ∀ x ∈ S, x ∈ F ∨ w.heap.size ≤ x) (hF : ∀ x ∈ F', x ∈ F ∨ w.heap.size ≤ x) : LnL w' F' a X := by
  refine ⟨h.vals.keep hf (fun hne q hq hm => ?_), h.fits, fun hne q hq hm => ?_⟩
  · rcases hS _ hm with h1 | h1
    · exact h.away (lnc_ne hne) q hq h1
    · have := valsAt_lt h.vals hne q hq; omega
  · rcases hF _ hm with h1 | h1
    · exact h.away hne q hq h1
    · have := valsAt_lt h.vals (lnc_ne' hne) q hq; omega
theorem LnL.at {w : World} {F : List Nat} {a : Option Addr} {X : List Ln} (h : LnL w F a X) {i : Nat} (hi : i < X.length) :
    ∃ b off, a = some ⟨b, off, none⟩ ∧ w.cell? ⟨b, off + i * 5, none⟩ = some (.string (X.getD i default).nm) ∧ w.cell? ⟨b, off + i * 5 + 1, none⟩ = some (.int .u64 ((X.getD i default).top : Nat)) ∧ w.cell? ⟨b, off + i * 5 + 2, none⟩ = some (.int .u64 ((X.getD i default).done : Nat)) ∧ w.cell? ⟨b, off + i * 5 + 3, none⟩ = some (.int .u64 ((X.getD i default).l : Nat)) ∧ w.cell? ⟨b, off + i * 5 + 4, none⟩ = some (.int .u64 ((X.getD i default).e : Nat)) ∧ (X.getD i default).fits := by
  obtain ⟨h0, h1, h2, h3, h4⟩ := lnc_at X i hi
  have hm : X.getD i default ∈ X := by simp [hi]
  rcases h.vals with h' | ⟨b, off, rfl, hc⟩
  · rw [h'] at h0; simp at h0
  · exact ⟨b, off, rfl, hc _ _ h0, by rw [Nat.add_assoc]; exact hc _ _ h1, by rw [Nat.add_assoc]; exact hc _ _ h2, by rw [Nat.add_assoc]; exact hc _ _ h3, by rw [Nat.add_assoc]; exact hc _ _ h4, h.fits _ hm⟩
theorem LnL.take {w : World} {F : List Nat} {a : Option Addr} {X : List Ln} (h : LnL w F a X) (n : Nat) : LnL w F a (X.take n) := by
  refine ⟨?_, fun x hx => h.fits x (List.mem_of_mem_take hx), fun hne => h.away (by rintro rfl; simp at hne)⟩
  rw [lnc_take]
  rcases h.vals with h' | ⟨b, off, rfl, hc⟩
  · exact .inl (by rw [h']; simp)
  · refine .inr ⟨b, off, rfl, fun i u hu => hc i u ?_⟩
    rw [List.getElem?_take] at hu
    split at hu
    · exact hu
    · cases hu
/-- A row of the call's own of sessions. -/
structure LnOwn (w : World) (base : Nat) (e : TypeId) (F : List Nat) (a : Option Addr) (cap : Nat) (X : List Ln) : Prop where
  own : w.ownsRow base e 5 (.slice a X.length cap) X.length (lnc X)
  fits : ∀ x ∈ X, x.fits
  away : ∀ g ∈ blk a, g ∉ F
section
variable {w w' : World} {base : Nat} {e : TypeId} {F F' S : List Nat} {a : Option Addr} {cap : Nat} {X : List Ln}
theorem LnOwn.nil (w : World) (base : Nat) (e : TypeId) (F : List Nat) : LnOwn w base e F none 0 [] := ⟨World.ownsRow_nil _ _ _ _, by simp, by simp⟩
theorem LnOwn.blk_lt (h : LnOwn w base e F a cap X) : ∀ g ∈ blk a, base ≤ g ∧ g < w.heap.size := fun g hg => World.ownsRow.lt h.own g (ownBlk3.2 hg)
theorem LnOwn.keep (h : LnOwn w base e F a cap X) (hf : Frm S w w') (hS : ∀ x ∈ S, x ∈ F ∨ w.heap.size ≤ x) (hF : ∀ x ∈ F', x ∈ F ∨ w.heap.size ≤ x) : LnOwn w' base e F' a cap X := by
  have hb := h.blk_lt
  refine ⟨hf.own h.own (fun g hg hm => ?_), h.fits, fun g hg hm => ?_⟩
  · rcases hS g hm with h1 | h1
    · exact h.away g (ownBlk3.1 hg) h1
    · have := (hb g (ownBlk3.1 hg)).2; omega
  · rcases hF g hm with h1 | h1
    · exact h.away g hg h1
    · have := (hb g hg).2; omega
theorem LnOwn.sl (h : LnOwn w base e F a cap X) : LnL w F a X := ⟨own_vals h.own, h.fits, fun _ q hq => h.away q.block (by rw [hq]; simp)⟩
theorem LnOwn.caps (h : LnOwn w base e F a cap X) : X.length ≤ cap ∧ cap ≤ maxLen ∧ (a = none → cap = 0) := by
  rcases h.own.2 with ⟨hv, hl⟩ | ⟨g, c, cur, hv, _, _, h1, h2, _⟩
  · simp only [Value.slice.injEq] at hv
    rw [hl, hv.2.2]; exact ⟨Nat.le_refl _, Nat.zero_le _, fun _ => rfl⟩
  · simp only [Value.slice.injEq] at hv
    obtain ⟨rfl, _, rfl⟩ := hv
    exact ⟨h1, h2, fun h => by cases h⟩
/-- What is appended. -/
theorem LnOwn.app {n m : Nat} {Y : List Ln} {a' : Option Addr} {cap' : Nat} (h : LnOwn w base e F a cap X) (hn : n = X.length) (k : ∀ y ∈ Y, y.fits) (hm : m = Y.length) (hF : ∀ x ∈ F, x < w.heap.size)
    (ha : AppS w w' base e 5 (.slice a n cap) n m (lnc X) (lnc Y) a' cap') : LnOwn w' base e F a' cap' (X ++ Y) ∧ Frm (blk a) w w' ∧ (∀ g ∈ blk a', g ∈ blk a ∨ w.heap.size ≤ g) ∧ n + m = (X ++ Y).length := by
  subst hn; subst hm
  have hf : Frm (blk a) w w' := (Frm.refl _ _).grown ha.grown (fun g hg => .inl (ownBlk3.1 hg))
  have hp : ∀ g ∈ blk a', g ∈ blk a ∨ w.heap.size ≤ g := by
    intro g hg
    have hg' : (Value.slice a' (X.length + Y.length) cap').ownBlock = some g := ownBlk3.2 hg
    rcases ha.place with h1 | h1
    · exact .inl (ownBlk3.1 (h1 ▸ hg'))
    · rw [hg'] at h1
      cases h1
      exact .inr (Nat.le_refl _)
  refine ⟨⟨?_, fun x hx => (List.mem_append.1 hx).elim (h.fits x) (k x), fun g hg hm => ?_⟩, hf, hp, by simp⟩
  · have := ha.own
    rwa [← lnc_append, ← List.length_append] at this
  · rcases hp g hg with h1 | h1
    · exact h.away g h1 hm
    · have := hF g hm; omega
end
theorem LnL.sub {w : World} {F : List Nat} {a : Option Addr} {X : List Ln} (h : LnL w F a X) {w' : World} (hf : Frm [] w w') : LnL w' F a X := h.keep hf (by simp) (fun x hx => .inl hx)
theorem lncvals_one (w : World) (x : Ln) (t : TypeId) : ValsAt (w.alloc (.cells #[.string x.nm, .int .u64 (x.top : Nat), .int .u64 (x.done : Nat), .int .u64 (x.l : Nat), .int .u64 (x.e : Nat)] t)) (some ⟨w.heap.size, 0, none⟩) (lnc [x]) := by
  refine .inr ⟨_, _, rfl, fun i u hu => ?_⟩
  rw [(Whole.made w t _).cell, Nat.zero_add]
  simp only [lnc, List.flatMap_cons, List.flatMap_nil, List.append_nil, Ln.cells] at hu
  rw [← hu]
  simp
end Go.Proofs.Ytahhkffghhgojaa
/- Texts: in order, as Go compares them; what begins them. It speaks of no program. -/
namespace Go.Proofs.Ytahhkffghhgojaa
open Go.RowKit
set_option maxRecDepth 100000

/-- Texts as the walk compares them. -/
theorem txt_ne {s t : ByteArray} (h : ¬ s = t) : (s.toList == t.toList) = false := by
  rw [beq_eq_false_iff_ne, ByteArray.toList_eq, ByteArray.toList_eq]
  intro e
  exact h (ByteArray.ext (Array.toList_inj.1 e))
/-- Texts in order, as Go compares them. -/
def kl (a b : ByteArray) : Bool := Op.bytesLess a.toList b.toList
theorem less_irr : ∀ a : List UInt8, Op.bytesLess a a = false
  | [] => rfl
  | x :: a => by simp [Op.bytesLess, less_irr a]
theorem less_cons (x y : UInt8) (a b : List UInt8) : Op.bytesLess (x :: a) (y :: b) = true ↔ x < y ∨ (x = y ∧ Op.bytesLess a b = true) := by simp [Op.bytesLess]
theorem less_trans : ∀ a b c : List UInt8, Op.bytesLess a b = true → Op.bytesLess b c = true → Op.bytesLess a c = true
  | [], [], c, h, _ => by simp [Op.bytesLess] at h
  | _ :: _, [], c, h, _ => by simp [Op.bytesLess] at h
  | _, _ :: _, [], _, h => by simp [Op.bytesLess] at h
  | [], _ :: _, _ :: _, _, _ => rfl
  | x :: a, y :: b, z :: c, h, k => by
    rw [less_cons] at h k ⊢
    rcases h with h | ⟨rfl, h⟩
    · rcases k with k | ⟨rfl, k⟩
      · exact .inl (UInt8.lt_trans h k)
      · exact .inl h
    · rcases k with k | ⟨rfl, k⟩
      · exact .inl k
      · exact .inr ⟨rfl, less_trans a b c h k⟩
theorem less_tot : ∀ a b : List UInt8, Op.bytesLess a b = false → Op.bytesLess b a = false → a = b
  | [], [], _, _ => rfl
  | [], _ :: _, h, _ => by simp [Op.bytesLess] at h
  | _ :: _, [], _, h => by simp [Op.bytesLess] at h
  | x :: a, y :: b, h, k => by
    have h' : ¬ (x < y ∨ (x = y ∧ Op.bytesLess a b = true)) := by rw [← less_cons, h]; simp
    have k' : ¬ (y < x ∨ (y = x ∧ Op.bytesLess b a = true)) := by rw [← less_cons, k]; simp
    have e : x = y := by
      rcases UInt8.lt_or_eq_of_le (UInt8.not_lt.1 (fun h => h' (.inl h))) with h1 | h1
      · exact absurd (.inl h1) k'
      · exact h1.symm
    subst e
    rw [less_tot a b (by simpa using fun h => h' (.inr ⟨rfl, h⟩)) (by simpa using fun h => k' (.inr ⟨rfl, h⟩))]
theorem cmp_lt : ∀ a b : List UInt8, decide (Lib.compareBytes a b < 0) = Op.bytesLess a b
  | [], [] => rfl
  | [], _ :: _ => rfl
  | _ :: _, [] => rfl
  | x :: a, y :: b => by
    unfold Lib.compareBytes Op.bytesLess
    by_cases h : x < y
    · simp [h]
    · by_cases k : y < x
      · have : ¬ x = y := by rintro rfl; exact absurd k (UInt8.lt_irrefl _)
        simp [h, k, this]
      · have e : x = y := UInt8.le_antisymm (UInt8.not_lt.1 k) (UInt8.not_lt.1 h)
        subst e
        simp [UInt8.lt_irrefl, cmp_lt a b]
theorem kl_irr (a : ByteArray) : kl a a = false := less_irr _
theorem kl_trans {a b c : ByteArray} (h : kl a b = true) (k : kl b c = true) : kl a c = true := less_trans _ _ _ h k
theorem ba_eq {a b : ByteArray} (h : a.toList = b.toList) : a = b := by
  rw [ByteArray.toList_eq, ByteArray.toList_eq] at h
  exact ByteArray.ext (Array.toList_inj.1 h)
theorem kl_tot {a b : ByteArray} (h : kl a b = false) (k : kl b a = false) : a = b := ba_eq (less_tot _ _ h k)
theorem kl_ne {a b : ByteArray} (h : kl a b = true) : a ≠ b := by rintro rfl; rw [kl_irr] at h; cases h
theorem kl_asym {a b : ByteArray} (h : kl a b = true) : kl b a = false := by
  cases e : kl b a with
  | false => rfl
  | true => have := kl_trans h e; rw [kl_irr] at this; cases this
/-- Does a text begin so? -/
def pfx (P K : ByteArray) : Bool := Lib.hasPrefix K.data.toList P.data.toList
theorem kl_data (a b : ByteArray) : kl a b = Op.bytesLess a.data.toList b.data.toList := by unfold kl; rw [Lib.toList_data, Lib.toList_data]
end Go.Proofs.Ytahhkffghhgojaa
/- Pieces of slices of lines; where a name stands; stores into a line. They speak of no program but in run_*. -/
namespace Go.Proofs.Ytahhkffghhgojaa
open Go.RowKit
set_option maxRecDepth 100000

/-- The address of what is left of a slice of elements of five cells each. -/
def cut5 (a : Option Addr) (cap lo : Nat) : Option Addr := if cap = lo then a else a.map (·.add (lo * 5))
theorem LnL.drop {w : World} {F : List Nat} {a : Option Addr} {X : List Ln} {cap : Nat} (h : LnL w F a X) (hc : X.length ≤ cap) (lo : Nat) : LnL w F (cut5 a cap lo) (X.drop lo) := by
  unfold cut5
  by_cases hlo : cap = lo
  · rw [if_pos hlo, List.drop_eq_nil_of_le (by omega)]; exact LnL.nil _ _ _
  · rw [if_neg hlo]
    refine ⟨?_, fun x hx => h.fits x (List.mem_of_mem_drop hx), fun hne q hq hm => ?_⟩
    · rw [lnc_drop]
      rcases h.vals with h' | ⟨b, off, rfl, hcc⟩
      · exact .inl (by rw [h']; simp)
      · refine .inr ⟨b, off + lo * 5, by simp [addr_add], fun i u hu => ?_⟩
        rw [List.getElem?_drop] at hu
        rw [Nat.add_assoc]
        exact hcc _ _ hu
    · cases a with
      | none => cases hq
      | some y =>
        simp at hq
        subst hq
        exact h.away (by rintro rfl; simp at hne) y rfl (by unfold Addr.add at hm; split at hm <;> exact hm)

section
variable {P : Program} {t e : TypeId}
/-- 'x[lo:]' of elements of five cells. -/
theorem run_cut5 (ht : P.underlying t = some (.slice e)) (hz : ∀ w, (Go.sizeOf e).run P w = .ok 5 w) (w : World) (a : Option Addr) (n cap lo : Nat) (l : Int) (hl : l = (lo : Nat)) (h1 : lo ≤ n) :
    (Instr.slice t (.slice a n cap) (some (.int .i64 l)) none none).run P w = .ok (.slice (cut5 a cap lo) (n - lo) (cap - lo)) w := by
  subst hl
  have ht' : P.underlying t = some (.slice (P.elem t)) := by simp [Program.elem, ht]
  have he : P.elem t = e := by simp [Program.elem, ht]
  rw [run_slice_l w t _ _ _ ht' .i64 _ (by omega) (by omega), he, hz]
  simp [Result.andThen, sliced, cut5]
theorem run_head5 (ht : P.underlying t = some (.slice e)) (hz : ∀ w, (Go.sizeOf e).run P w = .ok 5 w) (w : World) (a : Option Addr) (n cap hi : Nat) (h2 : hi ≤ cap) :
    (Instr.slice t (.slice a n cap) none (some (.int .i64 (hi : Nat))) none).run P w = .ok (.slice a hi cap) w := by
  have ht' : P.underlying t = some (.slice (P.elem t)) := by simp [Program.elem, ht]
  have he : P.elem t = e := by simp [Program.elem, ht]
  rw [run_slice_h w t _ _ _ ht' .i64 _ (by omega) (by omega), he, hz]
  have := head_map a
  simp [Result.andThen, sliced, this]
theorem run_head5m (ht : P.underlying t = some (.slice e)) (hz : ∀ w, (Go.sizeOf e).run P w = .ok 5 w) (w : World) (a : Option Addr) (n cap hi mx : Nat) (h2 : hi ≤ mx) (h3 : mx ≤ cap) :
    (Instr.slice t (.slice a n cap) none (some (.int .i64 (hi : Nat))) (some (.int .i64 (mx : Nat)))).run P w = .ok (.slice a hi mx) w := by
  have ht' : P.underlying t = some (.slice (P.elem t)) := by simp [Program.elem, ht]
  have he : P.elem t = e := by simp [Program.elem, ht]
  rw [run_slice_hm w t _ _ _ ht' .i64 .i64 _ _ (by omega) (by omega) (by omega), he, hz]
  have := head_map a
  simp [Result.andThen, sliced, this]
end

/-- A name's line; how many lines there are, if it has none. -/
def atL (X : List Ln) (s : ByteArray) : Nat := X.findIdx (fun x => decide (x.nm = s))
theorem atL_le (X : List Ln) (s : ByteArray) : atL X s ≤ X.length := List.findIdx_le_length
theorem ln_get {X : List Ln} {i : Nat} (h : i < X.length) : X.getD i default = X[i] := by simp [h]
theorem atL_key {X : List Ln} {s : ByteArray} (h : atL X s < X.length) : (X.getD (atL X s) default).nm = s := by
  have h1 := List.findIdx_getElem (p := fun x : Ln => decide (x.nm = s)) (w := h)
  rw [ln_get h]
  exact of_decide_eq_true h1
theorem atL_before {X : List Ln} {s : ByteArray} {j : Nat} (h : j < atL X s) : (X.getD j default).nm ≠ s := by
  have hj : j < X.length := Nat.lt_of_lt_of_le h (atL_le X s)
  have := List.not_of_lt_findIdx h
  rw [ln_get hj]
  simpa using this
def atLI (X : List Ln) (s : ByteArray) : Int := if atL X s < X.length then ((atL X s : Nat) : Int) else -1
theorem lnc_set (X : List Ln) (y : Ln) : ∀ q, q < X.length → y.nm = (X.getD q default).nm →
    lnc (X.set q y) = ((((lnc X).set (q * 5 + 1) (.int .u64 (y.top : Nat))).set (q * 5 + 2) (.int .u64 (y.done : Nat))).set (q * 5 + 3) (.int .u64 (y.l : Nat))).set (q * 5 + 4) (.int .u64 (y.e : Nat)) := by
  induction X with
  | nil => intro q h; simp at h
  | cons x X ih =>
    intro q hq hk
    have e : lnc (x :: X) = .string x.nm :: .int .u64 (x.top : Nat) :: .int .u64 (x.done : Nat) :: .int .u64 (x.l : Nat) :: .int .u64 (x.e : Nat) :: lnc X := rfl
    rcases q with _ | q
    · simp only [List.getD_cons_zero] at hk
      rw [e]
      simp [lnc, Ln.cells, hk]
    · have h := ih q (by simpa using hq) (by simpa using hk)
      rw [List.set_cons_succ, lnc_cons, h, e, show (q + 1) * 5 + 1 = q * 5 + 1 + 1 + 1 + 1 + 1 + 1 by omega, show (q + 1) * 5 + 2 = q * 5 + 2 + 1 + 1 + 1 + 1 + 1 by omega, show (q + 1) * 5 + 3 = q * 5 + 3 + 1 + 1 + 1 + 1 + 1 by omega, show (q + 1) * 5 + 4 = q * 5 + 4 + 1 + 1 + 1 + 1 + 1 by omega]
      rfl
theorem lnset_same {l : List Value} {i : Nat} {v : Value} (h : l[i]? = some v) : l.set i v = l := by
  apply List.ext_getElem?
  intro j
  by_cases e : i = j
  · subst e
    rw [List.getElem?_set_self (by
      rcases Nat.lt_or_ge i l.length with h1 | h1
      · exact h1
      · rw [List.getElem?_eq_none h1] at h; cases h), h]
  · rw [List.getElem?_set_ne e]
/-- A line with another Top; with another Done, At. -/
def Ln.wtop (x : Ln) (v : Nat) : Ln := ⟨x.nm, v, x.done, x.l, x.e⟩
def Ln.wdone (x : Ln) (d l e : Nat) : Ln := ⟨x.nm, x.top, d, l, e⟩
theorem lnc_set1 (X : List Ln) (q v : Nat) (h : q < X.length) : lnc (X.set q ((X.getD q default).wtop v)) = (lnc X).set (q * 5 + 1) (.int .u64 (v : Nat)) := by
  rw [lnc_set X ((X.getD q default).wtop v) q h rfl]
  obtain ⟨_, _, h2, h3, h4⟩ := lnc_at X q h
  simp only [Ln.wtop]
  rw [lnset_same (i := q * 5 + 2) (by rw [List.getElem?_set_ne (by omega)]; exact h2), lnset_same (i := q * 5 + 3) (by rw [List.getElem?_set_ne (by omega)]; exact h3), lnset_same (i := q * 5 + 4) (by rw [List.getElem?_set_ne (by omega)]; exact h4)]
theorem lnc_set2 (X : List Ln) (q d l e : Nat) (h : q < X.length) : lnc (X.set q ((X.getD q default).wdone d l e)) = (((lnc X).set (q * 5 + 2) (.int .u64 (d : Nat))).set (q * 5 + 3) (.int .u64 (l : Nat))).set (q * 5 + 4) (.int .u64 (e : Nat)) := by
  rw [lnc_set X ((X.getD q default).wdone d l e) q h rfl]
  obtain ⟨_, h1, _⟩ := lnc_at X q h
  simp only [Ln.wdone]
  rw [lnset_same h1]
end Go.Proofs.Ytahhkffghhgojaa
/- A string's bytes as a list. They speak of no program. -/
namespace Go.Proofs.Ytahhkffghhgojaa
open Go.RowKit

/-- A string's bytes. -/
def strL (s : ByteArray) : List Nat := s.data.toList.map UInt8.toNat
theorem strL_length (s : ByteArray) : (strL s).length = s.size := by simp [strL]
theorem strL_lt (s : ByteArray) : ∀ c ∈ strL s, c < 256 := by
  intro c hc
  simp only [strL, List.mem_map] at hc
  obtain ⟨x, _, rfl⟩ := hc
  exact x.toNat_lt
end Go.Proofs.Ytahhkffghhgojaa
/- 'string(b)' of whatever slice of bytes; strings of lists of bytes. They speak of no program. -/
namespace Go.Proofs.Ytahhkffghhgojaa
open Go.RowKit

/-- The string of these bytes. -/
def strOf (l : List Nat) : ByteArray := ⟨(l.map fun c => UInt8.ofNat c).toArray⟩
theorem strOf_nums (l : List Nat) : strOfNums (l.map fun c : Nat => (c : Int)) = strOf l := by
  apply ByteArray.ext
  apply Array.toList_inj.1
  rw [strOfNums_data]
  simp [strOf]
theorem strOf_size (l : List Nat) : (strOf l).size = l.length := by simp [strOf, ByteArray.size]

theorem run_to_string {P : Program} {w : World} {src dst e : TypeId} (hs : P.underlying src = some (.slice e)) (he : P.underlying e = some (.int .u8)) (hd : P.underlying dst = some .string)
    {a : Option Addr} {n c : Nat} {l : List Nat} (hl : Bytes w a l) (hn : n = l.length) : (convert src dst (.slice a n c)).run P w = .ok (.string (strOf l)) w := by
  subst hn
  cases a with
  | none =>
    have h0 : l = [] := by
      rcases hl.2.2 with h | ⟨b, off, h, _⟩
      · exact h
      · cases h
    subst h0
    rw [run_convert_bytes_nil w src e hs he _ _ dst hd]
    rfl
  | some x =>
    rcases hl.2.2 with h | ⟨b, off, h, hc⟩
    · subst h
      rw [run_convert_bytes_string w src dst e _ _ _ hs he hd, run_bytesToString w x _ _ [] (by simp [loadCells, loadCellsFrom])]
      rfl
    · cases h
      rw [run_convert_bytes_arg w src e hs he b off l.length c (l.map fun c : Nat => (c : Int)) (by simp) (fun i hi => by rw [hc i hi]; simp [hi]) dst hd, strOf_nums]
end Go.Proofs.Ytahhkffghhgojaa
/- The document's table in memory; contract of at: a name's place. -/
namespace Go.Proofs.Ytahhkffghhgojaa
open Go.RowKit
set_option maxRecDepth 100000

/-- The document's table at p has the lines X; its row lies outside p and the blocks F. -/
structure Tb (w : World) (B p : Nat) (F : List Nat) (a : Option Addr) (cap : Nat) (X : List Ln) : Prop where
  tab : Whole w p 29 #[.slice a X.length cap]
  row : LnOwn w B 42 (p :: F) a cap X
  hp : B ≤ p
  out : p ∉ F
  few : X.length ≤ 16

set_option maxRecDepth 100000 in
set_option maxHeartbeats 1000000 in
theorem rtbat_any {w : World} {B p : Nat} {F : List Nat} {a : Option Addr} {cap : Nat} {X : List Ln} (s : ByteArray) (h : Tb w B p F a cap X) :
    Calls Try.prog 25 #[.pointer (some ⟨p, 0, none⟩), .string s] w fun e w' => e = .returned (.int .i64 (atLI X s)) ∧ w = w' := by
  have c0 := h.tab.cell 0
  simp at c0
  have hn := h.few
  obtain ⟨n, hnn⟩ : ∃ n, n = X.length := ⟨_, rfl⟩
  rw [← hnn] at c0 hn
  have HR := Lib.hid h.row.sl
  have HN := Lib.hid hnn
  have hle := atL_le X s
  rw [← hnn] at hle
  have hatLI : atLI X s = if atL X s < n then ((atL X s : Nat) : Int) else -1 := by unfold atLI; rw [hnn]
  have HAK := Lib.hid (fun h => atL_key (X := X) (s := s) h)
  have HAB := Lib.hid (fun j h => atL_before (X := X) (s := s) (j := j) h)
  obtain ⟨q, hq⟩ : ∃ q, q = atL X s := ⟨_, rfl⟩
  rw [← hq] at hle hatLI HAK HAB
  have HAI := Lib.hid hatLI
  clear h hnn hatLI hq
  go_enter Try.func25, Try.ntmps25
  go_wp2
  go_loop [5] (fun u => ∃ k : Nat, k ≤ n ∧ k ≤ q ∧ u = .int .i64 (k : Nat)) (fun u => n - (intOf u).toNat)
  case atStart => exact ⟨0, Nat.zero_le _, Nat.zero_le _, rfl⟩
  case round =>
    obtain ⟨k, hk, hkq, rfl⟩ := hrel
    by_cases hlt : k < n
    · obtain ⟨b, off, rfl, c1, _⟩ := HR.out.at (i := k) (by have := HN.out; omega)
      by_cases hkq2 : k = q
      · subst hkq2
        have hkey := HAK.out (by have := HN.out; omega)
        rw [hkey] at c1
        go_wp2
        go_ret
        exact ⟨ret_same (by rw [HAI.out, if_pos hlt]), rfl⟩
      · obtain ⟨K, hK⟩ : ∃ K, K = (X.getD k default).nm := ⟨_, rfl⟩
        have hne : ¬ K = s := by rw [hK]; exact HAB.out k (by omega)
        rw [← hK] at c1
        clear hK
        have hnt := txt_ne hne
        clear hne
        go_wp2
        go_round
        case rel => exact ⟨k + 1, by omega, by omega, by go_num⟩
        case measure => simp [intOf]; omega
    · go_wp2
      go_ret
      exact ⟨ret_same (by rw [HAI.out, if_neg (by omega)]), rfl⟩
end Go.Proofs.Ytahhkffghhgojaa
/- What the table's calls answer and leave, over lists of lines. It speaks of no program. -/
namespace Go.Proofs.Ytahhkffghhgojaa
open Go.RowKit
set_option maxRecDepth 100000

/-- Begin's code, and the lines behind it. -/
def begC (X : List Ln) (s : ByteArray) (q : Nat) : Nat :=
  if s.size < 1 ∨ 64 < s.size then 10 else if q = 0 then 2 else
  if atL X s < X.length then (if q ≤ (X.getD (atL X s) default).done then 40 else if q ≤ (X.getD (atL X s) default).top then 41 else 0)
  else if X.length = 16 then 14 else 0
def begX (X : List Ln) (s : ByteArray) (q : Nat) : List Ln :=
  if begC X s q = 0 then (if atL X s < X.length then X.set (atL X s) ((X.getD (atL X s) default).wtop q) else X ++ [⟨s, q, 0, 0, 0⟩]) else X
/-- Done's. -/
def donC (X : List Ln) (s : ByteArray) (q : Nat) : Nat :=
  if atL X s < X.length then (if (X.getD (atL X s) default).top < q then 11 else if q ≤ (X.getD (atL X s) default).done then 40 else 0) else 11
def donX (X : List Ln) (s : ByteArray) (q l e : Nat) : List Ln :=
  if donC X s q = 0 then X.set (atL X s) ((X.getD (atL X s) default).wdone q l e) else X
/-- Forget's. -/
def forX (X : List Ln) : List Ln := (X.filter fun x => decide (0 < x.done)).map fun x => x.wtop x.done
theorem forX_take {X : List Ln} {k : Nat} (h : k < X.length) : forX (X.take (k + 1)) = forX (X.take k) ++ if 0 < (X.getD k default).done then [(X.getD k default).wtop (X.getD k default).done] else [] := by
  rw [ln_get h]
  unfold forX
  rw [List.take_succ_eq_append_getElem h, List.filter_append, List.map_append]
  congr 1
  by_cases h1 : 0 < X[k].done <;> simp [h1]
theorem forX_len (X : List Ln) : (forX X).length ≤ X.length := by
  unfold forX; rw [List.length_map]; exact List.length_filter_le _ _
/-- Where a line comes among others, by its name. -/
def posL (Y : List Ln) (K : ByteArray) : Nat := Y.findIdx (fun y => !kl y.nm K)
theorem posL_le (Y : List Ln) (K : ByteArray) : posL Y K ≤ Y.length := List.findIdx_le_length
theorem posL_before {Y : List Ln} {K : ByteArray} {j : Nat} (h : j < posL Y K) : kl (Y.getD j default).nm K = true := by
  have hj : j < Y.length := Nat.lt_of_lt_of_le h (posL_le Y K)
  have := List.not_of_lt_findIdx h
  rw [ln_get hj]
  simpa using this
theorem posL_at {Y : List Ln} {K : ByteArray} (h : posL Y K < Y.length) : kl (Y.getD (posL Y K) default).nm K = false := by
  have h1 := List.findIdx_getElem (p := fun y : Ln => !kl y.nm K) (w := h)
  rw [ln_get h]
  have h2 : (!kl Y[posL Y K].nm K) = true := h1
  simpa using h2
def insL (x : Ln) (Y : List Ln) : List Ln := Y.take (posL Y x.nm) ++ ([x] ++ Y.drop (posL Y x.nm))
theorem insL_len (x : Ln) (Y : List Ln) : (insL x Y).length = Y.length + 1 := by
  have := posL_le Y x.nm
  unfold insL; simp; omega
/-- All lines, by their names. -/
def allX (X : List Ln) : List Ln := X.foldl (fun Y x => insL x Y) []
theorem allX_take {X : List Ln} {k : Nat} (h : k < X.length) : allX (X.take (k + 1)) = insL (X.getD k default) (allX (X.take k)) := by
  rw [ln_get h]
  unfold allX
  rw [List.take_succ_eq_append_getElem h, List.foldl_append]
  rfl
theorem allX_len (X : List Ln) (k : Nat) (h : k ≤ X.length) : (allX (X.take k)).length = k := by
  induction k with
  | zero => simp [allX]
  | succ k ih =>
    have := ih (by omega)
    rw [allX_take (by omega), insL_len]; omega
end Go.Proofs.Ytahhkffghhgojaa
/- Contracts of the document's Begin, Done. -/
namespace Go.Proofs.Ytahhkffghhgojaa
open Go.RowKit
set_option maxRecDepth 100000

theorem infoLn : (Try.prog.info? 42).map (fun i => (i.zero, i.size, i.bytes)) = some (some (.agg #[.string ⟨#[]⟩, .int .u64 0, .int .u64 0, .int .u64 0, .int .u64 0]), 5, 48) := by kernel_rfl
theorem sizeLn : ∀ w, (Go.sizeOf 42).run Try.prog w = .ok 5 w := fun _ => by kernel_rfl
theorem blk_none_caps {w : World} {base : Nat} {e : TypeId} {F : List Nat} {a : Option Addr} {cap : Nat} {X : List Ln} (h : LnOwn w base e F a cap X) (hne : 0 < X.length) : ∃ g, a = some ⟨g, 0, none⟩ := by
  rcases h.own.2 with ⟨_, h0⟩ | ⟨g, _, _, hv, _⟩
  · omega
  · simp only [Value.slice.injEq] at hv
    exact ⟨g, hv.1⟩
/-- What a change of the table leaves. -/
def TbTo (w w' : World) (B p : Nat) (F : List Nat) (a : Option Addr) (X' : List Ln) : Prop := ∃ a' c', Tb w' B p F a' c' X' ∧ Frm (p :: blk a) w w' ∧ ∀ g ∈ blk a', g ∈ blk a ∨ w.heap.size ≤ g
theorem Tb.same {w : World} {B p : Nat} {F : List Nat} {a : Option Addr} {cap : Nat} {X : List Ln} (h : Tb w B p F a cap X) : TbTo w w B p F a X := ⟨a, cap, h, Frm.refl _ _, fun _ hg => .inl hg⟩
theorem Tb.keep {w w' : World} {B p : Nat} {F F' S : List Nat} {a : Option Addr} {cap : Nat} {X : List Ln} (h : Tb w B p F a cap X) (hf : Frm S w w') (hp : p ∉ S) (hS : ∀ x ∈ S, x ∈ p :: F ∨ w.heap.size ≤ x) (hF : ∀ x ∈ F', x ∈ F ∨ w.heap.size ≤ x) : Tb w' B p F' a cap X :=
  ⟨hf.whole h.tab hp, h.row.keep hf hS (fun x hx => by
    rcases List.mem_cons.1 hx with rfl | h1
    · exact .inl (by simp)
    · rcases hF x h1 with h2 | h2
      · exact .inl (by simp [h2])
      · exact .inr h2), h.hp, fun hm => by
    rcases hF p hm with h2 | h2
    · exact h.out h2
    · have := h.tab.lt; omega, h.few⟩
theorem TbTo.drew {w w' : World} {B p : Nat} {F : List Nat} {a : Option Addr} {X' : List Ln} (h : TbTo w w' B p F a X') : TbTo w w'.drew B p F a X' := by
  obtain ⟨a', c', h1, h2, h3⟩ := h
  exact ⟨a', c', h1.keep (Frm.drew (Frm.refl [] w')) (by simp) (by simp) (fun x hx => .inl hx), h2.drew, h3⟩
/-- A cell of a line is stored. -/
theorem Tb.put {w : World} {B p : Nat} {F : List Nat} {cap g : Nat} {X X' : List Ln} (h : Tb w B p F (some ⟨g, 0, none⟩) cap X) (j : Nat) (u : Value) (hx : lnc X' = (lnc X).set j u) (hl : X'.length = X.length) (hf : ∀ x ∈ X', x.fits) :
    Tb (w.setCell ⟨g, j, none⟩ u) B p F (some ⟨g, 0, none⟩) cap X' := by
  have hgp : g ≠ p := fun e => h.row.away g (by simp) (by simp [e])
  have hf1 : Frm [g] w (w.setCell ⟨g, j, none⟩ u) := (Frm.refl _ _).setCell (.inl (by simp)) _
  refine ⟨?_, ⟨?_, hf, h.row.away⟩, h.hp, h.out, by rw [hl]; exact h.few⟩
  · rw [hl]; exact hf1.whole h.tab (by simp; exact fun e => hgp e.symm)
  · have := (World.ownsRow.stored h.row.own j u).1
    rw [hx, hl]; exact this

set_option maxRecDepth 100000 in
set_option maxHeartbeats 4000000 in
theorem rbeg_any {w : World} {B p : Nat} {F : List Nat} {a : Option Addr} {cap : Nat} {X : List Ln} (s : ByteArray) (q : Nat) (h : Tb w B p F a cap X) (hF : ∀ x ∈ F, x < w.heap.size) (hs : s.size ≤ 9223372036854775807) (hq : q < 18446744073709551616) :
    Calls Try.prog 10 #[.pointer (some ⟨p, 0, none⟩), .string s, .int .u64 (q : Nat)] w (fun e w' => e = .returned (.int .i64 (begC X s q : Nat)) ∧ TbTo w w' B p F a (begX X s q)) := by
  obtain ⟨i0, hi, hz0, hz1, hz2⟩ := info_parts infoLn
  have HI := Lib.hid hi; clear hi
  have HZ0 := Lib.hid hz0; clear hz0
  have HZ1 := Lib.hid hz1; clear hz1
  have HZ2 := Lib.hid hz2; clear hz2
  have hr := rtbat_any s h
  obtain ⟨z, hz⟩ : ∃ z, z = atLI X s := ⟨_, rfl⟩
  rw [← hz] at hr
  have HR := Lib.hid hr; clear hr
  have HZ := Lib.hid hz; clear hz
  have c0 := h.tab.cell 0
  have f0 := h.tab.free 0
  obtain ⟨n, hnn⟩ : ∃ n, n = X.length := ⟨_, rfl⟩
  have hn : n ≤ 16 := by have := h.few; omega
  rw [← hnn] at c0
  simp at c0
  have HH := Lib.hid h
  have HN := Lib.hid hnn
  have HF := Lib.hid hF
  have HQ := Lib.hid hq
  obtain ⟨Q, hQ⟩ : ∃ Q : Ending → World → Prop, Q = (fun e w' => e = .returned (.int .i64 (begC X s q : Nat)) ∧ TbTo w w' B p F a (begX X s q)) := ⟨_, rfl⟩
  rw [← hQ]
  have SAME : Hid (∀ c : Nat, begC X s q = c → c ≠ 0 → Q (.returned (.int .i64 (c : Nat))) w) := Lib.hid (fun c hc h0 => by
    rw [hQ]
    refine ⟨by rw [hc], ?_⟩
    have : begX X s q = X := by unfold begX; rw [if_neg (by rw [hc]; exact h0)]
    rw [this]; exact HH.out.same)
  have HQQ := Lib.hid hQ
  clear hQ h hF hq hnn
  go_enter Try.func10, Try.ntmps10
  go_wp2_with fail
  (with_reducible refine HR.out.mono ?_)
  rintro e w' ⟨rfl, rfl⟩
  by_cases hs1 : s.size < 1
  · have d1 : (s.size : Int) < 1 := by omega
    have E := SAME.out 10 (by unfold begC; rw [if_pos (.inl hs1)]) (by decide)
    have EH := Lib.hid E; clear E
    go_wp2
    exact EH.out
  have d1 : ¬ (s.size : Int) < 1 := by omega
  by_cases hs2 : 64 < s.size
  · have d2 : (64 : Int) < s.size := by omega
    have E := SAME.out 10 (by unfold begC; rw [if_pos (.inr hs2)]) (by decide)
    have EH := Lib.hid E; clear E
    go_wp2
    exact EH.out
  have d2 : ¬ (64 : Int) < s.size := by omega
  have B1 : Hid (¬ (s.size < 1 ∨ 64 < s.size)) := Lib.hid (by omega)
  clear hs1 hs2
  by_cases hq0 : q = 0
  · subst hq0
    have E := SAME.out 2 (by unfold begC; rw [if_neg B1.out, if_pos rfl]) (by decide)
    have EH := Lib.hid E; clear E
    go_wp2
    exact EH.out
  have d3 : ((q : Int) == 0) = false := by simp; omega
  have B2 := Lib.hid hq0
  clear hq0
  by_cases hin : atL X s < X.length
  · obtain ⟨g, rfl⟩ := blk_none_caps HH.out.row (by omega)
    obtain ⟨b, off, hab, _, c1, c2, _, _, _⟩ := HH.out.row.sl.at hin
    have hk := atL_key hin
    obtain ⟨i, hi⟩ : ∃ i, i = atL X s := ⟨_, rfl⟩
    obtain rfl : z = (i : Int) := by rw [HZ.out]; unfold atLI; rw [if_pos hin, hi]
    rw [← hi] at hk hin c1 c2
    have hin2 : i < n := by rw [HN.out]; exact hin
    have BC : Hid (begC X s q = if q ≤ (X.getD i default).done then 40 else if q ≤ (X.getD i default).top then 41 else 0) := Lib.hid (by
      unfold begC
      rw [if_neg B1.out, if_neg B2.out, ← hi, if_pos hin])
    have BX : Hid (begC X s q = 0 → begX X s q = X.set i ((X.getD i default).wtop q)) := Lib.hid (fun h0 => by
      unfold begX
      rw [if_pos h0, ← hi, if_pos hin])
    have FIT : Hid ((X.getD i default).fits) := Lib.hid (HH.out.row.fits _ (by simp [hin]))
    have SET := Lib.hid (lnc_set1 X i q hin)
    obtain ⟨x, hx⟩ : ∃ x, x = X.getD i default := ⟨_, rfl⟩
    rw [← hx] at c1 c2 BC BX FIT SET
    obtain ⟨xn, xt, xd, xl, xe⟩ := x
    simp only at c1 c2
    have BC := Lib.hid BC.out
    simp only [Option.some.injEq, Addr.mk.injEq, and_true] at hab
    obtain ⟨rfl, rfl⟩ := hab
    simp only [Nat.zero_add] at c1 c2
    have HIN := Lib.hid hin
    have HK := Lib.hid hk
    have FR1 := Lib.hid (World.ownsRow.frozenAt HH.out.row.own (i * 5 + 1))
    clear hi hx hk hin
    have d4 : (0 : Int) ≤ (i : Int) := by omega
    have d5 : ¬ (i : Int) < 0 := by omega
    by_cases e1 : q ≤ xd
    · have e1' : (q : Int) ≤ (xd : Int) := by omega
      have EH := Lib.hid (SAME.out 40 (by rw [BC.out, if_pos e1]) (by decide))
      go_wp2
      exact EH.out
    · have e1' : ¬ (q : Int) ≤ (xd : Int) := by omega
      by_cases e2 : q ≤ xt
      · have e2' : (q : Int) ≤ (xt : Int) := by omega
        have EH := Lib.hid (SAME.out 41 (by rw [BC.out]; simp only; rw [if_neg e1, if_pos e2]) (by decide))
        go_wp2
        exact EH.out
      · have e2' : ¬ (q : Int) ≤ (xt : Int) := by omega
        have B0 : begC X s q = 0 := by rw [BC.out]; simp only; rw [if_neg e1, if_neg e2]
        have EH : Hid (Q (.returned (.int .i64 0)) (w.setCell ⟨g, i * 5 + 1, none⟩ (.int .u64 (q : Nat)))) := Lib.hid (by
          rw [HQQ.out]
          refine ⟨by rw [B0]; rfl, ?_⟩
          rw [BX.out B0]
          refine ⟨_, _, HH.out.put (i * 5 + 1) (.int .u64 (q : Nat)) SET.out (by simp) (fun y hy => ?_), (Frm.refl _ _).setCell (.inl (by simp)) _, fun k hk => .inl hk⟩
          rcases List.mem_or_eq_of_mem_set hy with h1 | h1
          · exact HH.out.row.fits y h1
          · rw [h1]; exact ⟨HQ.out, FIT.out.2⟩)
        have FR1 := FR1.out
        clear B0
        go_wp2
        exact EH.out
  · obtain rfl : z = -1 := by rw [HZ.out]; unfold atLI; rw [if_neg hin]
    have BC : Hid (begC X s q = if n = 16 then 14 else 0) := Lib.hid (by
      unfold begC
      rw [if_neg B1.out, if_neg B2.out, if_neg hin, ← HN.out])
    have BX : Hid (begC X s q = 0 → begX X s q = X ++ [⟨s, q, 0, 0, 0⟩]) := Lib.hid (fun h0 => by
      unfold begX
      rw [if_pos h0, if_neg hin])
    clear hin
    by_cases e1 : n = 16
    · have e1' : ((n : Int) == 16) = true := by simp; omega
      have EH := Lib.hid (SAME.out 14 (by rw [BC.out, if_pos e1]) (by decide))
      go_wp2
      exact EH.out
    · have e1' : ((n : Int) == 16) = false := by simp; omega
      have B0 : begC X s q = 0 := by rw [BC.out, if_neg e1]
      have BX := Lib.hid (BX.out B0)
      have OWN : Hid ((w.alloc (.cells #[.string s, .int .u64 (q : Nat), .int .u64 0, .int .u64 0, .int .u64 0] 42)).ownsRow B 42 5 (.slice a n cap) n (lnc X)) := Lib.hid (by
        have := (HH.out.row.keep (S := []) (F' := []) ((Frm.refl [] w).alloc (.cells #[.string s, .int .u64 (q : Nat), .int .u64 0, .int .u64 0, .int .u64 0] 42)) (by simp) (by simp)).own
        rwa [← HN.out] at this)
      have ONE : Hid (ValsAt (w.alloc (.cells #[.string s, .int .u64 (q : Nat), .int .u64 0, .int .u64 0, .int .u64 0] 42)) (some ⟨w.heap.size, 0, none⟩) (lnc [⟨s, q, 0, 0, 0⟩])) := Lib.hid (lncvals_one w ⟨s, q, 0, 0, 0⟩ 42)
      have hbz : B ≤ (w.alloc (.cells #[.string s, .int .u64 (q : Nat), .int .u64 0, .int .u64 0, .int .u64 0] 42)).heap.size := by have := HH.out.hp; have := HH.out.tab.lt; simp; omega
      have hfit : n + 1 ≤ 1000000000 := by omega
      go_wp2_with (at_builtin; refine wpList_appS (by rfl) (.tmp 70) (.tmp 74) 27 rfl B 42 i0 (.agg #[.string ⟨#[]⟩, .int .u64 0, .int .u64 0, .int .u64 0, .int .u64 0]) 5 48 Try.underlying27 HI.out HZ0.out rfl (by decide) HZ1.out HZ2.out (by decide) (.slice a n cap) n _ rfl OWN.out _ 1 1 _ rfl ONE.out rfl (lnc_one _) (fun h => by cases h) hfit hbz ?_)
      intro a3 c3 w3 happ
      have AL := (Frm.refl [] w).alloc (.cells #[.string s, .int .u64 (q : Nat), .int .u64 0, .int .u64 0, .int .u64 0] 42)
      have PF : ∀ x ∈ p :: F, x < w.heap.size := fun x hx => by
        rcases List.mem_cons.1 hx with rfl | h1
        · exact HH.out.tab.lt
        · exact HF.out x h1
      obtain ⟨g1, g2, g3, g4⟩ := (HH.out.row.keep (S := []) (F' := p :: F) AL (by simp) (fun x hx => .inl hx)).app (Y := [⟨s, q, 0, 0, 0⟩]) HN.out (by intro y hy; simp at hy; subst hy; exact ⟨HQ.out, (by show (0 : Nat) < _; decide), (by show (0 : Nat) < _; decide), (by show (0 : Nat) < _; decide)⟩) (m := 1) rfl (fun x hx => by have := PF x hx; simp; omega) happ
      have F3 : Frm (blk a) w w3 := (AL.weak (by simp)).trans g2 (fun x hx => hx) (fun x hx => .inl hx)
      have NP : p ∉ blk a := fun hm => HH.out.row.away p hm (by simp)
      have T3 := F3.whole HH.out.tab NP
      have NP3 : p ∉ blk a3 := fun hm => g1.away p hm (by simp)
      have c3' := T3.cell 0
      have f3' := T3.free 0
      simp at c3'
      have EH : Hid (Q (.returned (.int .i64 0)) (w3.setCell ⟨p, 0, none⟩ (.slice a3 (n + 1) c3))) := Lib.hid (by
        rw [HQQ.out]
        refine ⟨by rw [B0]; rfl, ?_⟩
        rw [BX.out]
        have ht := T3.put 0 (.slice a3 (n + 1) c3)
        have hs3 : Frm [p] w3 (w3.setCell ⟨p, 0, none⟩ (.slice a3 (n + 1) c3)) := (Frm.refl _ _).setCell (.inl (by simp)) _
        refine ⟨a3, c3, ⟨?_, g1.keep hs3 (fun x hx => .inl (by simp at hx; simp [hx])) (fun x hx => .inl hx), HH.out.hp, HH.out.out, by have h1 := HN.out; simp; omega⟩, ?_, fun k hk => ?_⟩
        · rw [← g4]; simpa using ht
        · exact F3.trans hs3 (fun x hx => by simp [hx]) (fun x hx => .inl (by simp at hx; simp [hx]))
        · rcases g3 k hk with h1 | h1
          · exact .inl h1
          · exact .inr (by simp at h1; omega))
      clear happ g1 g2 g3 g4 F3 T3 AL PF B0
      go_wp2
      exact EH.out
end Go.Proofs.Ytahhkffghhgojaa
/- Contract of the document's All. -/
namespace Go.Proofs.Ytahhkffghhgojaa
open Go.RowKit
set_option maxRecDepth 100000

def AlRel (w : World) (p : Nat) (F : List Nat) (X : List Ln) (u3 u4 : Value) (wr : World) : Prop :=
  ∃ k a' c', k ≤ X.length ∧ u3 = .slice a' (allX (X.take k)).length c' ∧ u4 = .int .i64 (k : Nat) ∧ LnOwn wr w.heap.size 42 (p :: F) a' c' (allX (X.take k)) ∧ Frm [] w wr
def AllEnd (w : World) (p : Nat) (F : List Nat) (Y : List Ln) (e : Ending) (w' : World) : Prop :=
  ∃ a' c', e = .returned (.slice a' Y.length c') ∧ LnOwn w' w.heap.size 42 (p :: F) a' c' Y ∧ Frm [] w w'

set_option maxRecDepth 100000 in
set_option maxHeartbeats 8000000 in
theorem rall_any {w : World} {B p : Nat} {F : List Nat} {a : Option Addr} {cap : Nat} {X : List Ln} (h : Tb w B p F a cap X) (hF : ∀ x ∈ F, x < w.heap.size) :
    Calls Try.prog 18 #[.pointer (some ⟨p, 0, none⟩)] w (AllEnd w p F (allX X)) := by
  obtain ⟨i0, hi, hz0, hz1, hz2⟩ := info_parts infoLn
  have HI := Lib.hid hi; clear hi
  have HZ0 := Lib.hid hz0; clear hz0
  have HZ1 := Lib.hid hz1; clear hz1
  have HZ2 := Lib.hid hz2; clear hz2
  have hn := h.few
  have HH := Lib.hid h; clear h
  have HPF : Hid (∀ x ∈ p :: F, x < w.heap.size) := Lib.hid fun x hx => by
    rcases List.mem_cons.1 hx with rfl | h1
    · exact HH.out.tab.lt
    · exact hF x h1
  clear hF
  obtain ⟨n, hnn⟩ : ∃ n, n = X.length := ⟨_, rfl⟩
  rw [← hnn] at hn
  have HN := Lib.hid hnn; clear hnn
  go_enter Try.func18, Try.ntmps18
  go_wp2
  go_loopw [3, 4] (fun u3 u4 wr => AlRel w p F X u3 u4 wr) (fun _ u4 _ => n - (intOf u4).toNat)
  case atStart => exact ⟨0, none, 0, Nat.zero_le _, rfl, rfl, LnOwn.nil _ _ _ _, Frm.refl _ _⟩
  case round =>
    obtain ⟨k, a', c', hk, rfl, rfl, hown, hf⟩ := hrel
    have HO := Lib.hid hown; clear hown
    have HF := Lib.hid hf; clear hf
    have c0 := (HF.out.whole HH.out.tab (by simp)).cell 0
    rw [← HN.out] at c0
    simp at c0
    have hYk := allX_len X k hk
    by_cases hlt : k < n
    · have hkL : k < X.length := by have := HN.out; omega
      have hst := allX_take hkL
      obtain ⟨b, off, hab, _⟩ := HH.out.row.sl.at hkL
      obtain rfl := hab
      have CX : Hid (∀ z, Frm [] w z → z.cell? ⟨p, 0, none⟩ = some (.slice (some ⟨b, off, none⟩) n cap) ∧ z.cell? ⟨b, off + k * 5, none⟩ = some (.string (X.getD k default).nm) ∧ z.cell? ⟨b, off + k * 5 + 1, none⟩ = some (.int .u64 ((X.getD k default).top : Nat)) ∧ z.cell? ⟨b, off + k * 5 + 2, none⟩ = some (.int .u64 ((X.getD k default).done : Nat)) ∧ z.cell? ⟨b, off + k * 5 + 3, none⟩ = some (.int .u64 ((X.getD k default).l : Nat)) ∧ z.cell? ⟨b, off + k * 5 + 4, none⟩ = some (.int .u64 ((X.getD k default).e : Nat))) := Lib.hid (fun z hz => by
        have c0 := (hz.whole HH.out.tab (by simp)).cell 0
        rw [← HN.out] at c0
        simp at c0
        obtain ⟨b1, off1, h0, p0, p1, p2, p3, p4, _⟩ := (HH.out.row.sl.keep (F' := p :: F) hz (by simp) (fun x h => .inl h)).at hkL
        simp only [Option.some.injEq, Addr.mk.injEq, and_true] at h0
        obtain ⟨rfl, rfl⟩ := h0
        exact ⟨c0, p0, p1, p2, p3, p4⟩)
      have hfit : (X.getD k default).fits := HH.out.row.fits _ (by simp [hkL])
      obtain ⟨Y, hY⟩ : ∃ Y, Y = allX (X.take k) := ⟨_, rfl⟩
      rw [← hY] at HO hst hYk ⊢
      obtain ⟨m, hm⟩ : ∃ m, m = Y.length := ⟨_, rfl⟩
      rw [← hm] at hYk ⊢
      have HM := Lib.hid hm; clear hm
      have hm16 : m ≤ 16 := by omega
      clear hYk
      obtain ⟨x, hx⟩ : ∃ x, x = X.getD k default := ⟨_, rfl⟩
      rw [← hx] at CX hst hfit
      obtain ⟨xn, xt, xd, xl, xe⟩ := x
      simp only at CX
      have HKL := Lib.hid hkL
      have HST := Lib.hid hst
      have HFIT := Lib.hid hfit
      clear hx hst hfit hkL hY hk c0
      have hs3 : (insL ⟨xn, xt, xd, xl, xe⟩ Y) = Y.take (posL Y xn) ++ ([⟨xn, xt, xd, xl, xe⟩] ++ Y.drop (posL Y xn)) := rfl
      have hpl := posL_le Y xn
      have HPB := Lib.hid (fun j h => posL_before (Y := Y) (K := xn) (j := j) h)
      have HPA := Lib.hid (fun h => posL_at (Y := Y) (K := xn) h)
      obtain ⟨q, hq⟩ : ∃ q, q = posL Y xn := ⟨_, rfl⟩
      rw [← hq] at hs3 hpl HPB HPA
      have hqm : q ≤ m := by rw [HM.out]; exact hpl
      have HS2 : Hid (allX (X.take (k + 1)) = Y.take q ++ ([⟨xn, xt, xd, xl, xe⟩] ++ Y.drop q)) := Lib.hid (by rw [HST.out, hs3])
      clear hs3 hpl hq HST
      obtain ⟨W, rfl⟩ : ∃ W, W = wr := ⟨_, rfl⟩
      obtain ⟨p0, p1, p2, p3, p4, p5⟩ := CX.out _ HF.out
      go_wp2
      clear p0 p1 p2 p3 p4 p5
      go_loopw [5] (fun u5 z => ∃ j : Nat, j ≤ q ∧ u5 = .int .i64 (j : Nat) ∧ Hid (Frm [] W z)) (fun u5 _ => m - (intOf u5).toNat)
      case atStart => exact ⟨0, Nat.zero_le _, rfl, Lib.hid (Frm.refl _ _)⟩
      case round =>
        obtain ⟨j, hj, rfl, HZ⟩ := hrel
        have FZ : Hid (Frm [] w wr) := Lib.hid (HF.out.trans HZ.out (by simp) (by simp))
        have OZ : Hid (LnOwn wr w.heap.size 42 (p :: F) a' c' Y) := Lib.hid (HO.out.keep HZ.out (by simp) (fun x hx => .inl hx))
        have p0 : ∀ z, Frm [] wr z → z.cell? ⟨p, 0, none⟩ = some (.slice (some ⟨b, off, none⟩) n cap) := fun z hz => (CX.out _ (FZ.out.trans hz (by simp) (by simp))).1
        have p1 : ∀ z, Frm [] wr z → z.cell? ⟨b, off + k * 5, none⟩ = some (.string xn) := fun z hz => (CX.out _ (FZ.out.trans hz (by simp) (by simp))).2.1
        by_cases hjq : j < q
        · obtain ⟨b2, o2, rfl, y0, _⟩ := (OZ.out.sl).at (i := j) (by have := HM.out; omega)
          have hless : Op.bytesLess (Y.getD j default).nm.toList xn.toList = true := HPB.out j hjq
          generalize (Y.getD j default).nm = yk at y0 hless
          have HLESS := Lib.hid hless
          have y1 : ∀ z, Frm [] wr z → z.cell? ⟨b2, o2 + j * 5, none⟩ = some (.string yk) := fun z hz => (hz.cell (block_lt_of_cell y0) (by simp)).trans y0
          have hjm : j < m := by omega
          have hjm' : (j : Int) < (m : Int) := by omega
          have k2 : decide ((j : Int) < (m : Int)) = true := decide_eq_true hjm'
          have k2n : decide (j < m) = true := decide_eq_true hjm
          have HJQ := Lib.hid hjq
          have HJM := Lib.hid hjm
          clear y0 hjq hless
          have hless : Op.bytesLess yk.toList xn.toList = true := HLESS.out
          go_wp2
          refine wp_region_held_drew (S := fun w' => Frm [] wr w') (by kernel_rfl) (Frm.drew (Frm.refl _ _)) (fun hHeld => ?_)
          refine wpAnyH_take (i := 0) (oi := ⟨some 15, _, _, _, _, _⟩) (v := ?_) rfl (by kernel_rfl) (by kernel_rfl) (by kernel_rfl) (fun _ _ _ h => h) (Or.inl ⟨by rfl, ?_⟩) (by assumption) ?_
          rotate_left 1
          · (intro w hSw; (try dsimp only at hSw); go_simp; all_goals with_reducible rfl)
          try simp only [Act.put, List.setIfInBounds_toArray, List.set_cons_zero, List.set_cons_succ]
          refine wpAnyH_take (i := 1) (oi := ⟨some 16, _, _, _, _, _⟩) (v := ?_) rfl (by kernel_rfl) (by kernel_rfl) (by kernel_rfl) (fun _ _ _ h => h) (Or.inl ⟨by rfl, ?_⟩) (by assumption) ?_
          rotate_left 1
          · (intro w hSw; (try dsimp only at hSw); go_simp; all_goals with_reducible rfl)
          try simp only [Act.put, List.setIfInBounds_toArray, List.set_cons_zero, List.set_cons_succ]
          refine wpAnyH_take (i := 2) (oi := ⟨some 17, _, _, _, _, _⟩) (v := ?_) rfl (by kernel_rfl) (by kernel_rfl) (by kernel_rfl) (fun _ _ _ h => h) (Or.inl ⟨by rfl, ?_⟩) (by assumption) ?_
          rotate_left 1
          · (intro w hSw; (try dsimp only at hSw); go_simp; all_goals with_reducible rfl)
          try simp only [Act.put, List.setIfInBounds_toArray, List.set_cons_zero, List.set_cons_succ]
          refine wpAnyH_take (i := 3) (oi := ⟨some 18, _, _, _, _, _⟩) (v := ?_) rfl (by kernel_rfl) (by kernel_rfl) (by kernel_rfl) (fun _ _ _ h => h) (Or.inl ⟨by rfl, ?_⟩) (by assumption) ?_
          rotate_left 1
          · (intro w hSw; (try dsimp only at hSw); go_simp; all_goals with_reducible rfl)
          try simp only [Act.put, List.setIfInBounds_toArray, List.set_cons_zero, List.set_cons_succ]
          refine wpAnyH_take (i := 4) (oi := ⟨some 19, _, _, _, _, _⟩) (v := ?_) rfl (by kernel_rfl) (by kernel_rfl) (by kernel_rfl) (fun _ _ _ h => h) (Or.inl ⟨by rfl, ?_⟩) (by assumption) ?_
          rotate_left 1
          · (intro w hSw; (try dsimp only at hSw); go_simp; all_goals with_reducible rfl)
          try simp only [Act.put, List.setIfInBounds_toArray, List.set_cons_zero, List.set_cons_succ]
          refine wpAnyH_take (i := 5) (oi := ⟨some 20, _, _, _, _, _⟩) (v := ?_) rfl (by kernel_rfl) (by kernel_rfl) (by kernel_rfl) (fun _ _ _ h => h) (Or.inl ⟨by rfl, ?_⟩) (by assumption) ?_
          rotate_left 1
          · (intro w hSw; (try dsimp only at hSw); go_simp; all_goals with_reducible rfl)
          try simp only [Act.put, List.setIfInBounds_toArray, List.set_cons_zero, List.set_cons_succ]
          refine wpAnyH_take (i := 6) (oi := ⟨some 21, _, _, _, _, _⟩) (v := ?_) rfl (by kernel_rfl) (by kernel_rfl) (by kernel_rfl) (fun _ _ _ h => h) (Or.inl ⟨by rfl, ?_⟩) (by assumption) ?_
          rotate_left 1
          · (intro w hSw; (try dsimp only at hSw); go_simp; all_goals with_reducible rfl)
          try simp only [Act.put, List.setIfInBounds_toArray, List.set_cons_zero, List.set_cons_succ]
          refine wpAnyH_take (i := 7) (oi := ⟨some 22, _, _, _, _, _⟩) (v := ?_) rfl (by kernel_rfl) (by kernel_rfl) (by kernel_rfl) (fun _ _ _ h => h) (Or.inl ⟨by rfl, ?_⟩) (by assumption) ?_
          rotate_left 1
          · (intro w hSw; (try dsimp only at hSw); go_simp; all_goals with_reducible rfl)
          try simp only [Act.put, List.setIfInBounds_toArray, List.set_cons_zero, List.set_cons_succ]
          refine wpAnyH_take (i := 8) (oi := ⟨some 23, _, _, _, _, _⟩) (v := ?_) rfl (by kernel_rfl) (by kernel_rfl) (by kernel_rfl) (fun _ _ _ h => h) (Or.inl ⟨by rfl, ?_⟩) (by assumption) ?_
          rotate_left 1
          · (intro w hSw; (try dsimp only at hSw); go_simp; all_goals with_reducible rfl)
          try simp only [Act.put, List.setIfInBounds_toArray, List.set_cons_zero, List.set_cons_succ]
          refine wpAnyH_take (i := 9) (oi := ⟨some 24, _, _, _, _, _⟩) (v := ?_) rfl (by kernel_rfl) (by kernel_rfl) (by kernel_rfl) (fun _ _ _ h => h) (Or.inl ⟨by rfl, ?_⟩) (by assumption) ?_
          rotate_left 1
          · (intro w hSw; (try dsimp only at hSw); go_simp; all_goals with_reducible rfl)
          try simp only [Act.put, List.setIfInBounds_toArray, List.set_cons_zero, List.set_cons_succ]
          refine wpAnyH_take (i := 10) (oi := ⟨some 25, _, _, _, _, _⟩) (v := ?_) rfl (by kernel_rfl) (by kernel_rfl) (by kernel_rfl) (fun _ _ _ h => h) (Or.inl ⟨by rfl, ?_⟩) (by assumption) ?_
          rotate_left 1
          · (intro w hSw; (try dsimp only at hSw); go_simp; all_goals with_reducible rfl)
          try simp only [Act.put, List.setIfInBounds_toArray, List.set_cons_zero, List.set_cons_succ]
          refine wpAnyH_take (i := 11) (oi := ⟨some 26, _, _, _, _, _⟩) (v := ?_) rfl (by kernel_rfl) (by kernel_rfl) (by kernel_rfl) (fun _ _ _ h => h) (Or.inl ⟨by rfl, ?_⟩) (by assumption) ?_
          rotate_left 1
          · (intro w hSw; (try dsimp only at hSw); go_simp; all_goals with_reducible rfl)
          try simp only [Act.put, List.setIfInBounds_toArray, List.set_cons_zero, List.set_cons_succ]
          refine wpAnyH_take (i := 12) (oi := ⟨some 27, _, _, _, _, _⟩) (v := ?_) rfl (by kernel_rfl) (by kernel_rfl) (by kernel_rfl) (fun _ _ _ h => h) (Or.inl ⟨by rfl, ?_⟩) (by assumption) ?_
          rotate_left 1
          · (intro w hSw; (try dsimp only at hSw); go_simp; all_goals with_reducible rfl)
          try simp only [Act.put, List.setIfInBounds_toArray, List.set_cons_zero, List.set_cons_succ]
          refine wpAnyH_take (i := 13) (oi := ⟨some 28, _, _, _, _, _⟩) (v := ?_) rfl (by kernel_rfl) (by kernel_rfl) (by kernel_rfl) (fun _ _ _ h => h) (Or.inl ⟨by rfl, ?_⟩) (by assumption) ?_
          rotate_left 1
          · (intro w hSw; (try dsimp only at hSw); go_simp; all_goals with_reducible rfl)
          try simp only [Act.put, List.setIfInBounds_toArray, List.set_cons_zero, List.set_cons_succ]
          refine wpAnyH_take (i := 14) (oi := ⟨some 29, _, _, _, _, _⟩) (v := ?_) rfl (by kernel_rfl) (by kernel_rfl) (by kernel_rfl) (fun _ _ _ h => h) (Or.inl ⟨by rfl, ?_⟩) (by assumption) ?_
          rotate_left 1
          · (intro w hSw; (try dsimp only at hSw); go_simp; all_goals with_reducible rfl)
          try simp only [Act.put, List.setIfInBounds_toArray, List.set_cons_zero, List.set_cons_succ]
          refine wpAnyH_take (i := 15) (oi := ⟨some 30, _, _, _, _, _⟩) (v := ?_) rfl (by kernel_rfl) (by kernel_rfl) (by kernel_rfl) (fun _ _ _ h => h) (Or.inl ⟨by rfl, ?_⟩) (by assumption) ?_
          rotate_left 1
          · (intro w hSw; (try dsimp only at hSw); go_simp; all_goals with_reducible rfl)
          try simp only [Act.put, List.setIfInBounds_toArray, List.set_cons_zero, List.set_cons_succ]
          refine wpAnyH_take (i := 16) (oi := ⟨some 31, _, _, _, _, _⟩) (v := ?_) rfl (by kernel_rfl) (by kernel_rfl) (by kernel_rfl) (fun _ _ _ h => h) (Or.inl ⟨by rfl, ?_⟩) (by assumption) ?_
          rotate_left 1
          · (intro w hSw; (try dsimp only at hSw); go_simp; all_goals with_reducible rfl)
          try simp only [Act.put, List.setIfInBounds_toArray, List.set_cons_zero, List.set_cons_succ]
          refine wpAnyH_take (i := 17) (oi := ⟨some 32, _, _, _, _, _⟩) (v := ?_) rfl (by kernel_rfl) (by kernel_rfl) (by kernel_rfl) (fun _ _ _ h => h) (Or.inl ⟨by rfl, ?_⟩) (by assumption) ?_
          rotate_left 1
          · (intro w hSw; (try dsimp only at hSw); go_simp; all_goals with_reducible rfl)
          try simp only [Act.put, List.setIfInBounds_toArray, List.set_cons_zero, List.set_cons_succ]
          refine wpAnyH_take (i := 18) (oi := ⟨some 33, _, _, _, _, _⟩) (v := ?_) rfl (by kernel_rfl) (by kernel_rfl) (by kernel_rfl) (fun _ _ _ h => h) (Or.inl ⟨by rfl, ?_⟩) (by assumption) ?_
          rotate_left 1
          · (intro w hSw; (try dsimp only at hSw); go_simp; all_goals with_reducible rfl)
          try simp only [Act.put, List.setIfInBounds_toArray, List.set_cons_zero, List.set_cons_succ]
          refine wpAnyH_take (i := 19) (oi := ⟨some 34, _, _, _, _, _⟩) (v := ?_) rfl (by kernel_rfl) (by kernel_rfl) (by kernel_rfl) (fun _ _ _ h => h) (Or.inl ⟨by rfl, ?_⟩) (by assumption) ?_
          rotate_left 1
          · (intro w hSw; (try dsimp only at hSw); go_simp; all_goals with_reducible rfl)
          try simp only [Act.put, List.setIfInBounds_toArray, List.set_cons_zero, List.set_cons_succ]
          refine wpAnyH_done (by kernel_rfl) ?_ _
          have FX : Hid (Frm [] W _) := Lib.hid (HZ.out.trans hHeld (U := []) (by simp) (by simp))
          clear y1 p0 p1
          go_wp2
          go_roundw
          case rel => exact ⟨j + 1, by have := HJQ.out; omega, by go_num, FX⟩
          case measure => have := HJM.out; simp [intOf]; omega
        · obtain rfl : j = q := by omega
          have hcap : m ≤ c' := by rw [HM.out]; exact OZ.out.caps.1
          have hcut1 := fun w => run_head5m Try.underlying27 sizeLn w a' m c' j j (Nat.le_refl _) (by omega)
          have hcut2 := fun w => run_cut5 (P := Try.prog) Try.underlying27 sizeLn w a' m c' j (j : Int) rfl hqm
          have V1 := Lib.hid (fun (z : World) (hz : Frm [] wr z) => ((OZ.out.sl.take j).keep (F' := p :: F) hz (by simp) (fun x h => .inl h)).vals)
          have V2 := Lib.hid (fun (z : World) (hz : Frm [] wr z) => ((OZ.out.sl.drop (by rw [← HM.out]; exact hcap) j).keep (F' := p :: F) hz (by simp) (fun x h => .inl h)).vals)
          have hcn : cut5 a' c' j = none → c' - j = 0 := fun h0 => by
            have h1 := OZ.out.caps.2.2
            unfold cut5 at h0
            split at h0
            · omega
            · have := h1 (by simpa using h0); omega
          have han : a' = none → j = 0 := fun h0 => by have := OZ.out.caps.2.2 h0; omega
          obtain ⟨a2, ha2⟩ : ∃ a2, a2 = cut5 a' c' j := ⟨_, rfl⟩
          obtain ⟨n2, hn2⟩ : ∃ n2, n2 = m - j := ⟨_, rfl⟩
          obtain ⟨c2, hc2⟩ : ∃ c2, c2 = c' - j := ⟨_, rfl⟩
          rw [← ha2, ← hn2, ← hc2] at hcut2
          rw [← ha2] at V2 hcn
          rw [← hc2] at hcn
          have HCN := Lib.hid hcn
          have HAN := Lib.hid han
          have hl1 : (lnc (Y.take j)).length = j * 5 := by rw [lnc_length, List.length_take, ← HM.out, Nat.min_eq_left hqm]
          have hl2 : (lnc (Y.drop j)).length = n2 * 5 := by rw [lnc_length, List.length_drop, ← HM.out, hn2]
          have HL1 := Lib.hid hl1
          have HL2 := Lib.hid hl2
          have hfit1 : 1 + n2 ≤ 1000000000 := by omega
          have hfit2 : j + (1 + n2) ≤ 1000000000 := by omega
          have hpos : 0 < 1 + n2 := by omega
          have hsum : j + (1 + n2) = m + 1 := by omega
          have HSUM := Lib.hid hsum
          have HL12 : Hid ((lnc [⟨xn, xt, xd, xl, xe⟩] ++ lnc (Y.drop j)).length = (1 + n2) * 5) := Lib.hid (by rw [List.length_append, hl2, lnc_length, List.length_singleton]; omega)
          have HONE : Hid (∀ u ∈ lnc [⟨xn, xt, xd, xl, xe⟩] ++ lnc (Y.drop j), u.oneCell' = true) := Lib.hid (fun u hu => (List.mem_append.1 hu).elim (lnc_one _ u) (lnc_one _ u))
          have HC := Lib.hid hcap
          clear ha2 hn2 hc2 hcn han hl1 hl2 hsum hjq hcap
          have hcase : (¬ j < m) ∨ (j < m ∧ ∃ b2 o2 yk, a' = some ⟨b2, o2, none⟩ ∧ wr.cell? ⟨b2, o2 + j * 5, none⟩ = some (.string yk) ∧ Op.bytesLess yk.toList xn.toList = false) := by
            rcases Nat.lt_or_ge j m with h | h
            · obtain ⟨b2, o2, e, y0, _⟩ := (OZ.out.sl).at (i := j) (by have := HM.out; omega)
              exact .inr ⟨h, b2, o2, _, e, y0, HPA.out (by have := HM.out; omega)⟩
            · exact .inl (by omega)
          have TAIL : Hid (∀ z, Frm [] wr z → ∀ a4 c4 w4, Frm [] z w4 → (∀ g ∈ blk a4, z.heap.size ≤ g) → w4.ownsRow w.heap.size 42 5 (.slice a4 (m + 1) c4) (m + 1) (lnc (Y.take j) ++ (lnc [⟨xn, xt, xd, xl, xe⟩] ++ lnc (Y.drop j))) → AlRel w p F X (.slice a4 (m + 1) c4) (.int .i64 ((k + 1 : Nat) : Int)) w4) := Lib.hid (fun z hz a4 c4 w4 h4 hb4 ho4 => by
            have hlen : (Y.take j ++ ([(⟨xn, xt, xd, xl, xe⟩ : Ln)] ++ Y.drop j)).length = m + 1 := by
              have h1 := HM.out
              simp; omega
            refine ⟨k + 1, a4, c4, HKL.out, by rw [HS2.out, hlen], rfl, ?_, FZ.out.trans (hz.trans h4 (U := []) (by simp) (by simp)) (U := []) (by simp) (by simp)⟩
            rw [HS2.out]
            refine ⟨by rw [hlen, lnc_append, lnc_append]; exact ho4, fun y hy => ?_, fun g hg hm => by have h1 := hb4 g hg; have h2 := HPF.out g hm; have h3 := FZ.out.size; have h5 := hz.size; omega⟩
            rcases List.mem_append.1 hy with h1 | h1
            · exact OZ.out.fits y (List.mem_of_mem_take h1)
            · rcases List.mem_append.1 h1 with h2 | h2
              · simp at h2; subst h2; exact HFIT.out
              · exact OZ.out.fits y (List.mem_of_mem_drop h2))
          have LIT := Lib.hid (fun (z : World) (hz : Frm [] wr z) => (show (z.alloc (.cells #[.string xn, .int .u64 (xt : Nat), .int .u64 (xd : Nat), .int .u64 (xl : Nat), .int .u64 (xe : Nat)] 42)).ownsRow w.heap.size 42 5 (.slice (some ⟨z.heap.size, 0, none⟩) 1 1) 1 (lnc [⟨xn, xt, xd, xl, xe⟩]) from World.ownsRow_lit z _ 1 (Nat.le_trans FZ.out.size hz.size) (by unfold maxLen; omega) rfl))
          have p2 : ∀ z, Frm [] wr z → z.cell? ⟨b, off + k * 5 + 1, none⟩ = some (.int .u64 (xt : Nat)) := fun z hz => (CX.out _ (FZ.out.trans hz (by simp) (by simp))).2.2.1
          have p3 : ∀ z, Frm [] wr z → z.cell? ⟨b, off + k * 5 + 2, none⟩ = some (.int .u64 (xd : Nat)) := fun z hz => (CX.out _ (FZ.out.trans hz (by simp) (by simp))).2.2.2.1
          have p4 : ∀ z, Frm [] wr z → z.cell? ⟨b, off + k * 5 + 3, none⟩ = some (.int .u64 (xl : Nat)) := fun z hz => (CX.out _ (FZ.out.trans hz (by simp) (by simp))).2.2.2.2.1
          have p5 : ∀ z, Frm [] wr z → z.cell? ⟨b, off + k * 5 + 4, none⟩ = some (.int .u64 (xe : Nat)) := fun z hz => (CX.out _ (FZ.out.trans hz (by simp) (by simp))).2.2.2.2.2
          rcases hcase with hjm | ⟨hjm, b2, o2, yk, rfl, y0, hless⟩
          · have hjm' : ¬ (j : Int) < (m : Int) := by omega
            have k2 : decide ((j : Int) < (m : Int)) = false := decide_eq_false hjm'
            have k2n : decide (j < m) = false := decide_eq_false hjm
            go_wp2
            refine wp_region_held_drew (S := fun w' => Frm [] wr w') (by kernel_rfl) (Frm.drew (Frm.refl _ _)) (fun hHeld => ?_)
            refine wpAnyH_take (i := 0) (oi := ⟨some 15, _, _, _, _, _⟩) (v := ?_) rfl (by kernel_rfl) (by kernel_rfl) (by kernel_rfl) (fun _ _ _ h => h) (Or.inl ⟨by rfl, ?_⟩) (by assumption) ?_
            rotate_left 1
            · (intro w hSw; (try dsimp only at hSw); go_simp; all_goals with_reducible rfl)
            try simp only [Act.put, List.setIfInBounds_toArray, List.set_cons_zero, List.set_cons_succ]
            refine wpAnyH_take (i := 1) (oi := ⟨some 16, _, _, _, _, _⟩) (v := ?_) rfl (by kernel_rfl) (by kernel_rfl) (by kernel_rfl) (fun _ _ _ h => h) (Or.inl ⟨by rfl, ?_⟩) (by assumption) ?_
            rotate_left 1
            · (intro w hSw; (try dsimp only at hSw); go_simp; all_goals with_reducible rfl)
            try simp only [Act.put, List.setIfInBounds_toArray, List.set_cons_zero, List.set_cons_succ]
            refine wpAnyH_take (i := 2) (oi := ⟨some 17, _, _, _, _, _⟩) (v := ?_) rfl (by kernel_rfl) (by kernel_rfl) (by kernel_rfl) (fun _ _ _ h => h) (Or.inl ⟨by rfl, ?_⟩) (by assumption) ?_
            rotate_left 1
            · (intro w hSw; (try dsimp only at hSw); go_simp; all_goals with_reducible rfl)
            try simp only [Act.put, List.setIfInBounds_toArray, List.set_cons_zero, List.set_cons_succ]
            refine wpAnyH_take (i := 3) (oi := ⟨some 18, _, _, _, _, _⟩) (v := ?_) rfl (by kernel_rfl) (by kernel_rfl) (by kernel_rfl) (fun _ _ _ h => h) (Or.inl ⟨by rfl, ?_⟩) (by assumption) ?_
            rotate_left 1
            · (intro w hSw; (try dsimp only at hSw); go_simp; all_goals with_reducible rfl)
            try simp only [Act.put, List.setIfInBounds_toArray, List.set_cons_zero, List.set_cons_succ]
            refine wpAnyH_take (i := 4) (oi := ⟨some 19, _, _, _, _, _⟩) (v := ?_) rfl (by kernel_rfl) (by kernel_rfl) (by kernel_rfl) (fun _ _ _ h => h) (Or.inl ⟨by rfl, ?_⟩) (by assumption) ?_
            rotate_left 1
            · (intro w hSw; (try dsimp only at hSw); go_simp; all_goals with_reducible rfl)
            try simp only [Act.put, List.setIfInBounds_toArray, List.set_cons_zero, List.set_cons_succ]
            refine wpAnyH_take (i := 5) (oi := ⟨some 20, _, _, _, _, _⟩) (v := undef) rfl (by kernel_rfl) (by kernel_rfl) (by kernel_rfl) (fun _ _ _ h => h) (Or.inr ⟨by rfl, rfl⟩) (by assumption) ?_
            try simp only [Act.put, List.setIfInBounds_toArray, List.set_cons_zero, List.set_cons_succ]
            refine wpAnyH_take (i := 6) (oi := ⟨some 21, _, _, _, _, _⟩) (v := undef) rfl (by kernel_rfl) (by kernel_rfl) (by kernel_rfl) (fun _ _ _ h => h) (Or.inr ⟨by rfl, rfl⟩) (by assumption) ?_
            try simp only [Act.put, List.setIfInBounds_toArray, List.set_cons_zero, List.set_cons_succ]
            refine wpAnyH_take (i := 7) (oi := ⟨some 22, _, _, _, _, _⟩) (v := undef) rfl (by kernel_rfl) (by kernel_rfl) (by kernel_rfl) (fun _ _ _ h => h) (Or.inr ⟨by rfl, rfl⟩) (by assumption) ?_
            try simp only [Act.put, List.setIfInBounds_toArray, List.set_cons_zero, List.set_cons_succ]
            refine wpAnyH_take (i := 8) (oi := ⟨some 23, _, _, _, _, _⟩) (v := undef) rfl (by kernel_rfl) (by kernel_rfl) (by kernel_rfl) (fun _ _ _ h => h) (Or.inr ⟨by rfl, rfl⟩) (by assumption) ?_
            try simp only [Act.put, List.setIfInBounds_toArray, List.set_cons_zero, List.set_cons_succ]
            refine wpAnyH_take (i := 9) (oi := ⟨some 24, _, _, _, _, _⟩) (v := undef) rfl (by kernel_rfl) (by kernel_rfl) (by kernel_rfl) (fun _ _ _ h => h) (Or.inr ⟨by rfl, rfl⟩) (by assumption) ?_
            try simp only [Act.put, List.setIfInBounds_toArray, List.set_cons_zero, List.set_cons_succ]
            refine wpAnyH_take (i := 10) (oi := ⟨some 25, _, _, _, _, _⟩) (v := undef) rfl (by kernel_rfl) (by kernel_rfl) (by kernel_rfl) (fun _ _ _ h => h) (Or.inr ⟨by rfl, rfl⟩) (by assumption) ?_
            try simp only [Act.put, List.setIfInBounds_toArray, List.set_cons_zero, List.set_cons_succ]
            refine wpAnyH_take (i := 11) (oi := ⟨some 26, _, _, _, _, _⟩) (v := undef) rfl (by kernel_rfl) (by kernel_rfl) (by kernel_rfl) (fun _ _ _ h => h) (Or.inr ⟨by rfl, rfl⟩) (by assumption) ?_
            try simp only [Act.put, List.setIfInBounds_toArray, List.set_cons_zero, List.set_cons_succ]
            refine wpAnyH_take (i := 12) (oi := ⟨some 27, _, _, _, _, _⟩) (v := undef) rfl (by kernel_rfl) (by kernel_rfl) (by kernel_rfl) (fun _ _ _ h => h) (Or.inr ⟨by rfl, rfl⟩) (by assumption) ?_
            try simp only [Act.put, List.setIfInBounds_toArray, List.set_cons_zero, List.set_cons_succ]
            refine wpAnyH_take (i := 13) (oi := ⟨some 28, _, _, _, _, _⟩) (v := undef) rfl (by kernel_rfl) (by kernel_rfl) (by kernel_rfl) (fun _ _ _ h => h) (Or.inr ⟨by rfl, rfl⟩) (by assumption) ?_
            try simp only [Act.put, List.setIfInBounds_toArray, List.set_cons_zero, List.set_cons_succ]
            refine wpAnyH_take (i := 14) (oi := ⟨some 29, _, _, _, _, _⟩) (v := undef) rfl (by kernel_rfl) (by kernel_rfl) (by kernel_rfl) (fun _ _ _ h => h) (Or.inr ⟨by rfl, rfl⟩) (by assumption) ?_
            try simp only [Act.put, List.setIfInBounds_toArray, List.set_cons_zero, List.set_cons_succ]
            refine wpAnyH_take (i := 15) (oi := ⟨some 30, _, _, _, _, _⟩) (v := undef) rfl (by kernel_rfl) (by kernel_rfl) (by kernel_rfl) (fun _ _ _ h => h) (Or.inr ⟨by rfl, rfl⟩) (by assumption) ?_
            try simp only [Act.put, List.setIfInBounds_toArray, List.set_cons_zero, List.set_cons_succ]
            refine wpAnyH_take (i := 16) (oi := ⟨some 31, _, _, _, _, _⟩) (v := undef) rfl (by kernel_rfl) (by kernel_rfl) (by kernel_rfl) (fun _ _ _ h => h) (Or.inr ⟨by rfl, rfl⟩) (by assumption) ?_
            try simp only [Act.put, List.setIfInBounds_toArray, List.set_cons_zero, List.set_cons_succ]
            refine wpAnyH_take (i := 17) (oi := ⟨some 32, _, _, _, _, _⟩) (v := undef) rfl (by kernel_rfl) (by kernel_rfl) (by kernel_rfl) (fun _ _ _ h => h) (Or.inr ⟨by rfl, rfl⟩) (by assumption) ?_
            try simp only [Act.put, List.setIfInBounds_toArray, List.set_cons_zero, List.set_cons_succ]
            refine wpAnyH_take (i := 18) (oi := ⟨some 33, _, _, _, _, _⟩) (v := undef) rfl (by kernel_rfl) (by kernel_rfl) (by kernel_rfl) (fun _ _ _ h => h) (Or.inr ⟨by rfl, rfl⟩) (by assumption) ?_
            try simp only [Act.put, List.setIfInBounds_toArray, List.set_cons_zero, List.set_cons_succ]
            refine wpAnyH_take (i := 19) (oi := ⟨some 34, _, _, _, _, _⟩) (v := ?_) rfl (by kernel_rfl) (by kernel_rfl) (by kernel_rfl) (fun _ _ _ h => h) (Or.inl ⟨by rfl, ?_⟩) (by assumption) ?_
            rotate_left 1
            · (intro w hSw; (try dsimp only at hSw); go_simp; all_goals with_reducible rfl)
            try simp only [Act.put, List.setIfInBounds_toArray, List.set_cons_zero, List.set_cons_succ]
            refine wpAnyH_done (by kernel_rfl) ?_ _
            go_wp2
            refine wp_region_held_drew (S := fun w' => Frm [] wr w') (by kernel_rfl) (Frm.drew (Frm.drew (Frm.refl _ _))) (fun hHeld => ?_)
            refine wpAnyH_take (i := 0) (oi := ⟨some 37, _, _, _, _, _⟩) (v := ?_) rfl (by kernel_rfl) (by kernel_rfl) (by kernel_rfl) (fun _ _ _ h => h) (Or.inl ⟨by rfl, ?_⟩) (by assumption) ?_
            rotate_left 1
            · (intro w hSw; (try dsimp only at hSw); go_simp; all_goals with_reducible rfl)
            try simp only [Act.put, List.setIfInBounds_toArray, List.set_cons_zero, List.set_cons_succ]
            refine wpAnyH_take (i := 1) (oi := ⟨some 38, _, _, _, _, _⟩) (v := ?_) rfl (by kernel_rfl) (by kernel_rfl) (by kernel_rfl) (fun _ _ _ h => h) (Or.inl ⟨by rfl, ?_⟩) (by assumption) ?_
            rotate_left 1
            · (intro w hSw; (try dsimp only at hSw); go_simp; all_goals with_reducible rfl)
            try simp only [Act.put, List.setIfInBounds_toArray, List.set_cons_zero, List.set_cons_succ]
            refine wpAnyH_take (i := 2) (oi := ⟨some 39, _, _, _, _, _⟩) (v := ?_) rfl (by kernel_rfl) (by kernel_rfl) (by kernel_rfl) (fun _ _ _ h => h) (Or.inl ⟨by rfl, ?_⟩) (by assumption) ?_
            rotate_left 1
            · (intro w hSw; (try dsimp only at hSw); go_simp; all_goals with_reducible rfl)
            try simp only [Act.put, List.setIfInBounds_toArray, List.set_cons_zero, List.set_cons_succ]
            refine wpAnyH_take (i := 3) (oi := ⟨some 40, _, _, _, _, _⟩) (v := ?_) rfl (by kernel_rfl) (by kernel_rfl) (by kernel_rfl) (fun _ _ _ h => h) (Or.inl ⟨by rfl, ?_⟩) (by assumption) ?_
            rotate_left 1
            · (intro w hSw; (try dsimp only at hSw); go_simp; all_goals with_reducible rfl)
            try simp only [Act.put, List.setIfInBounds_toArray, List.set_cons_zero, List.set_cons_succ]
            refine wpAnyH_take (i := 4) (oi := ⟨some 41, _, _, _, _, _⟩) (v := ?_) rfl (by kernel_rfl) (by kernel_rfl) (by kernel_rfl) (fun _ _ _ h => h) (Or.inl ⟨by rfl, ?_⟩) (by assumption) ?_
            rotate_left 1
            · (intro w hSw; (try dsimp only at hSw); go_simp; all_goals with_reducible rfl)
            try simp only [Act.put, List.setIfInBounds_toArray, List.set_cons_zero, List.set_cons_succ]
            refine wpAnyH_take (i := 5) (oi := ⟨some 42, _, _, _, _, _⟩) (v := ?_) rfl (by kernel_rfl) (by kernel_rfl) (by kernel_rfl) (fun _ _ _ h => h) (Or.inl ⟨by rfl, ?_⟩) (by assumption) ?_
            rotate_left 1
            · (intro w hSw; (try dsimp only at hSw); go_simp; all_goals with_reducible rfl)
            try simp only [Act.put, List.setIfInBounds_toArray, List.set_cons_zero, List.set_cons_succ]
            refine wpAnyH_take (i := 6) (oi := ⟨some 43, _, _, _, _, _⟩) (v := ?_) rfl (by kernel_rfl) (by kernel_rfl) (by kernel_rfl) (fun _ _ _ h => h) (Or.inl ⟨by rfl, ?_⟩) (by assumption) ?_
            rotate_left 1
            · (intro w hSw; (try dsimp only at hSw); go_simp; all_goals with_reducible rfl)
            try simp only [Act.put, List.setIfInBounds_toArray, List.set_cons_zero, List.set_cons_succ]
            refine wpAnyH_take (i := 7) (oi := ⟨some 44, _, _, _, _, _⟩) (v := ?_) rfl (by kernel_rfl) (by kernel_rfl) (by kernel_rfl) (fun _ _ _ h => h) (Or.inl ⟨by rfl, ?_⟩) (by assumption) ?_
            rotate_left 1
            · (intro w hSw; (try dsimp only at hSw); go_simp; all_goals with_reducible rfl)
            try simp only [Act.put, List.setIfInBounds_toArray, List.set_cons_zero, List.set_cons_succ]
            refine wpAnyH_take (i := 8) (oi := ⟨some 45, _, _, _, _, _⟩) (v := ?_) rfl (by kernel_rfl) (by kernel_rfl) (by kernel_rfl) (fun _ _ _ h => h) (Or.inl ⟨by rfl, ?_⟩) (by assumption) ?_
            rotate_left 1
            · (intro w hSw; (try dsimp only at hSw); go_simp; all_goals with_reducible rfl)
            try simp only [Act.put, List.setIfInBounds_toArray, List.set_cons_zero, List.set_cons_succ]
            refine wpAnyH_take (i := 9) (oi := ⟨some 46, _, _, _, _, _⟩) (v := ?_) rfl (by kernel_rfl) (by kernel_rfl) (by kernel_rfl) (fun _ _ _ h => h) (Or.inl ⟨by rfl, ?_⟩) (by assumption) ?_
            rotate_left 1
            · (intro w hSw; (try dsimp only at hSw); go_simp; all_goals with_reducible rfl)
            try simp only [Act.put, List.setIfInBounds_toArray, List.set_cons_zero, List.set_cons_succ]
            refine wpAnyH_take (i := 10) (oi := ⟨some 47, _, _, _, _, _⟩) (v := ?_) rfl (by kernel_rfl) (by kernel_rfl) (by kernel_rfl) (fun _ _ _ h => h) (Or.inl ⟨by rfl, ?_⟩) (by assumption) ?_
            rotate_left 1
            · (intro w hSw; (try dsimp only at hSw); go_simp; all_goals with_reducible rfl)
            try simp only [Act.put, List.setIfInBounds_toArray, List.set_cons_zero, List.set_cons_succ]
            refine wpAnyH_take (i := 12) (oi := ⟨some 49, _, _, _, _, _⟩) (v := ?_) rfl (by kernel_rfl) (by kernel_rfl) (by kernel_rfl) (fun _ _ _ h => h) (Or.inl ⟨by rfl, ?_⟩) (by assumption) ?_
            rotate_left 1
            · (intro w hSw; (try dsimp only at hSw); go_simp; all_goals with_reducible rfl)
            try simp only [Act.put, List.setIfInBounds_toArray, List.set_cons_zero, List.set_cons_succ]
            refine wpAnyH_take (i := 13) (oi := ⟨some 50, _, _, _, _, _⟩) (v := ?_) rfl (by kernel_rfl) (by kernel_rfl) (by kernel_rfl) (fun _ _ _ h => h) (Or.inl ⟨by rfl, ?_⟩) (by assumption) ?_
            rotate_left 1
            · (intro w hSw; (try dsimp only at hSw); go_simp; all_goals with_reducible rfl)
            try simp only [Act.put, List.setIfInBounds_toArray, List.set_cons_zero, List.set_cons_succ]
            refine wpAnyH_take (i := 14) (oi := ⟨some 51, _, _, _, _, _⟩) (v := ?_) rfl (by kernel_rfl) (by kernel_rfl) (by kernel_rfl) (fun _ _ _ h => h) (Or.inl ⟨by rfl, ?_⟩) (by assumption) ?_
            rotate_left 1
            · (intro w hSw; (try dsimp only at hSw); go_simp; all_goals with_reducible rfl)
            try simp only [Act.put, List.setIfInBounds_toArray, List.set_cons_zero, List.set_cons_succ]
            refine wpAnyH_ready (rs := [11]) (by kernel_rfl) (by simp) ?_
            refine AllReadyH.cons (o := ⟨some 48, _, _, _, _, _⟩) rfl (fun K hK => ?_) AllReadyH.nil
            go_simp
            refine hK.out _ _ (by repeat (first | assumption | apply Frm.alloc | apply Frm.drew | exact Frm.refl _ _)) (fun hHeld => ?_)
            clear hK K
            try simp only [Act.put, List.setIfInBounds_toArray, List.set_cons_zero, List.set_cons_succ]
            refine wpAnyH_ready (rs := [15]) (by kernel_rfl) (by simp) ?_
            refine AllReadyH.cons (o := ⟨some 52, _, _, _, _, _⟩) rfl (fun K hK => ?_) AllReadyH.nil
            refine step_appS (by rfl) (.tmp 48) (.tmp 51) 27 rfl w.heap.size 42 i0 (.agg #[.string ⟨#[]⟩, .int .u64 0, .int .u64 0, .int .u64 0, .int .u64 0]) 5 48 Try.underlying27 HI.out HZ0.out rfl (by decide) HZ1.out HZ2.out (by decide) (.slice (some ⟨wr.heap.size, 0, none⟩) 1 1) 1 _ rfl (LIT.out wr.drew.drew (Frm.drew (Frm.drew (Frm.refl _ _)))) _ n2 c2 _ rfl (V2.out _ hHeld) HL2.out (lnc_one _) HCN.out hfit1 (Nat.le_trans FZ.out.size hHeld.size) (1 + n2) rfl ?_; intro a3 c3 w3 happ3; have f3 : Frm [] wr w3 := hHeld.grown happ3.grown (fun g hg => .inr (by simp [Value.ownBlock] at hg; omega)); have O3 := Lib.hid (own_vals happ3.own); clear happ3
            refine hK.out _ _ (by repeat (first | assumption | apply Frm.alloc | apply Frm.drew | exact Frm.refl _ _)) (fun hHeld => ?_)
            clear hK K
            try simp only [Act.put, List.setIfInBounds_toArray, List.set_cons_zero, List.set_cons_succ]
            refine wpAnyH_ready (rs := [16]) (by kernel_rfl) (by simp) ?_
            refine AllReadyH.cons (o := ⟨some 53, _, _, _, _, _⟩) rfl (fun K hK => ?_) AllReadyH.nil
            refine step_appT (by rfl) (.tmp 40) (.tmp 52) 27 rfl w.heap.size 42 i0 (.agg #[.string ⟨#[]⟩, .int .u64 0, .int .u64 0, .int .u64 0, .int .u64 0]) 5 48 Try.underlying27 HI.out HZ0.out rfl (by decide) HZ1.out HZ2.out (by decide) _ j _ rfl (V1.out _ f3) HL1.out _ (1 + n2) c3 _ rfl O3.out HL12.out HONE.out hpos hfit2 (Nat.le_trans FZ.out.size f3.size) HAN.out (m + 1) HSUM.out ?_; intro a4 c4 w4 h4 f34 g4; have NREL := Lib.hid (TAIL.out _ f3 a4 c4 w4 f34 g4 h4); have f4 : Frm [] wr w4 := f3.trans f34 (by simp) (by simp); clear h4 f34 g4
            refine hK.out _ _ (by repeat (first | assumption | apply Frm.alloc | apply Frm.drew | exact Frm.refl _ _)) (fun hHeld => ?_)
            clear hK K
            try simp only [Act.put, List.setIfInBounds_toArray, List.set_cons_zero, List.set_cons_succ]
            refine wpAnyH_take (i := 17) (oi := ⟨some 3, _, _, _, _, _⟩) (v := ?_) rfl (by kernel_rfl) (by kernel_rfl) (by kernel_rfl) (fun _ _ _ h => h) (Or.inl ⟨by rfl, ?_⟩) (by assumption) ?_
            rotate_left 1
            · (intro w hSw; (try dsimp only at hSw); go_simp; all_goals with_reducible rfl)
            try simp only [Act.put, List.setIfInBounds_toArray, List.set_cons_zero, List.set_cons_succ]
            refine wpAnyH_done (by kernel_rfl) ?_ _
            clear f3 f4 O3
            go_wp2
            go_roundw
            case rel => exact NREL.out
            case measure => simp [intOf]; omega
          · have hjm' : (j : Int) < (m : Int) := by omega
            have k2 : decide ((j : Int) < (m : Int)) = true := decide_eq_true hjm'
            have k2n : decide (j < m) = true := decide_eq_true hjm
            have y1 : ∀ z, Frm [] wr z → z.cell? ⟨b2, o2 + j * 5, none⟩ = some (.string yk) := fun z hz => (hz.cell (block_lt_of_cell y0) (by simp)).trans y0
            clear y0
            go_wp2
            refine wp_region_held_drew (S := fun w' => Frm [] wr w') (by kernel_rfl) (Frm.drew (Frm.refl _ _)) (fun hHeld => ?_)
            refine wpAnyH_take (i := 0) (oi := ⟨some 15, _, _, _, _, _⟩) (v := ?_) rfl (by kernel_rfl) (by kernel_rfl) (by kernel_rfl) (fun _ _ _ h => h) (Or.inl ⟨by rfl, ?_⟩) (by assumption) ?_
            rotate_left 1
            · (intro w hSw; (try dsimp only at hSw); go_simp; all_goals with_reducible rfl)
            try simp only [Act.put, List.setIfInBounds_toArray, List.set_cons_zero, List.set_cons_succ]
            refine wpAnyH_take (i := 1) (oi := ⟨some 16, _, _, _, _, _⟩) (v := ?_) rfl (by kernel_rfl) (by kernel_rfl) (by kernel_rfl) (fun _ _ _ h => h) (Or.inl ⟨by rfl, ?_⟩) (by assumption) ?_
            rotate_left 1
            · (intro w hSw; (try dsimp only at hSw); go_simp; all_goals with_reducible rfl)
            try simp only [Act.put, List.setIfInBounds_toArray, List.set_cons_zero, List.set_cons_succ]
            refine wpAnyH_take (i := 2) (oi := ⟨some 17, _, _, _, _, _⟩) (v := ?_) rfl (by kernel_rfl) (by kernel_rfl) (by kernel_rfl) (fun _ _ _ h => h) (Or.inl ⟨by rfl, ?_⟩) (by assumption) ?_
            rotate_left 1
            · (intro w hSw; (try dsimp only at hSw); go_simp; all_goals with_reducible rfl)
            try simp only [Act.put, List.setIfInBounds_toArray, List.set_cons_zero, List.set_cons_succ]
            refine wpAnyH_take (i := 3) (oi := ⟨some 18, _, _, _, _, _⟩) (v := ?_) rfl (by kernel_rfl) (by kernel_rfl) (by kernel_rfl) (fun _ _ _ h => h) (Or.inl ⟨by rfl, ?_⟩) (by assumption) ?_
            rotate_left 1
            · (intro w hSw; (try dsimp only at hSw); go_simp; all_goals with_reducible rfl)
            try simp only [Act.put, List.setIfInBounds_toArray, List.set_cons_zero, List.set_cons_succ]
            refine wpAnyH_take (i := 4) (oi := ⟨some 19, _, _, _, _, _⟩) (v := ?_) rfl (by kernel_rfl) (by kernel_rfl) (by kernel_rfl) (fun _ _ _ h => h) (Or.inl ⟨by rfl, ?_⟩) (by assumption) ?_
            rotate_left 1
            · (intro w hSw; (try dsimp only at hSw); go_simp; all_goals with_reducible rfl)
            try simp only [Act.put, List.setIfInBounds_toArray, List.set_cons_zero, List.set_cons_succ]
            refine wpAnyH_take (i := 5) (oi := ⟨some 20, _, _, _, _, _⟩) (v := ?_) rfl (by kernel_rfl) (by kernel_rfl) (by kernel_rfl) (fun _ _ _ h => h) (Or.inl ⟨by rfl, ?_⟩) (by assumption) ?_
            rotate_left 1
            · (intro w hSw; (try dsimp only at hSw); go_simp; all_goals with_reducible rfl)
            try simp only [Act.put, List.setIfInBounds_toArray, List.set_cons_zero, List.set_cons_succ]
            refine wpAnyH_take (i := 6) (oi := ⟨some 21, _, _, _, _, _⟩) (v := ?_) rfl (by kernel_rfl) (by kernel_rfl) (by kernel_rfl) (fun _ _ _ h => h) (Or.inl ⟨by rfl, ?_⟩) (by assumption) ?_
            rotate_left 1
            · (intro w hSw; (try dsimp only at hSw); go_simp; all_goals with_reducible rfl)
            try simp only [Act.put, List.setIfInBounds_toArray, List.set_cons_zero, List.set_cons_succ]
            refine wpAnyH_take (i := 7) (oi := ⟨some 22, _, _, _, _, _⟩) (v := ?_) rfl (by kernel_rfl) (by kernel_rfl) (by kernel_rfl) (fun _ _ _ h => h) (Or.inl ⟨by rfl, ?_⟩) (by assumption) ?_
            rotate_left 1
            · (intro w hSw; (try dsimp only at hSw); go_simp; all_goals with_reducible rfl)
            try simp only [Act.put, List.setIfInBounds_toArray, List.set_cons_zero, List.set_cons_succ]
            refine wpAnyH_take (i := 8) (oi := ⟨some 23, _, _, _, _, _⟩) (v := ?_) rfl (by kernel_rfl) (by kernel_rfl) (by kernel_rfl) (fun _ _ _ h => h) (Or.inl ⟨by rfl, ?_⟩) (by assumption) ?_
            rotate_left 1
            · (intro w hSw; (try dsimp only at hSw); go_simp; all_goals with_reducible rfl)
            try simp only [Act.put, List.setIfInBounds_toArray, List.set_cons_zero, List.set_cons_succ]
            refine wpAnyH_take (i := 9) (oi := ⟨some 24, _, _, _, _, _⟩) (v := ?_) rfl (by kernel_rfl) (by kernel_rfl) (by kernel_rfl) (fun _ _ _ h => h) (Or.inl ⟨by rfl, ?_⟩) (by assumption) ?_
            rotate_left 1
            · (intro w hSw; (try dsimp only at hSw); go_simp; all_goals with_reducible rfl)
            try simp only [Act.put, List.setIfInBounds_toArray, List.set_cons_zero, List.set_cons_succ]
            refine wpAnyH_take (i := 10) (oi := ⟨some 25, _, _, _, _, _⟩) (v := ?_) rfl (by kernel_rfl) (by kernel_rfl) (by kernel_rfl) (fun _ _ _ h => h) (Or.inl ⟨by rfl, ?_⟩) (by assumption) ?_
            rotate_left 1
            · (intro w hSw; (try dsimp only at hSw); go_simp; all_goals with_reducible rfl)
            try simp only [Act.put, List.setIfInBounds_toArray, List.set_cons_zero, List.set_cons_succ]
            refine wpAnyH_take (i := 11) (oi := ⟨some 26, _, _, _, _, _⟩) (v := ?_) rfl (by kernel_rfl) (by kernel_rfl) (by kernel_rfl) (fun _ _ _ h => h) (Or.inl ⟨by rfl, ?_⟩) (by assumption) ?_
            rotate_left 1
            · (intro w hSw; (try dsimp only at hSw); go_simp; all_goals with_reducible rfl)
            try simp only [Act.put, List.setIfInBounds_toArray, List.set_cons_zero, List.set_cons_succ]
            refine wpAnyH_take (i := 12) (oi := ⟨some 27, _, _, _, _, _⟩) (v := ?_) rfl (by kernel_rfl) (by kernel_rfl) (by kernel_rfl) (fun _ _ _ h => h) (Or.inl ⟨by rfl, ?_⟩) (by assumption) ?_
            rotate_left 1
            · (intro w hSw; (try dsimp only at hSw); go_simp; all_goals with_reducible rfl)
            try simp only [Act.put, List.setIfInBounds_toArray, List.set_cons_zero, List.set_cons_succ]
            refine wpAnyH_take (i := 13) (oi := ⟨some 28, _, _, _, _, _⟩) (v := ?_) rfl (by kernel_rfl) (by kernel_rfl) (by kernel_rfl) (fun _ _ _ h => h) (Or.inl ⟨by rfl, ?_⟩) (by assumption) ?_
            rotate_left 1
            · (intro w hSw; (try dsimp only at hSw); go_simp; all_goals with_reducible rfl)
            try simp only [Act.put, List.setIfInBounds_toArray, List.set_cons_zero, List.set_cons_succ]
            refine wpAnyH_take (i := 14) (oi := ⟨some 29, _, _, _, _, _⟩) (v := ?_) rfl (by kernel_rfl) (by kernel_rfl) (by kernel_rfl) (fun _ _ _ h => h) (Or.inl ⟨by rfl, ?_⟩) (by assumption) ?_
            rotate_left 1
            · (intro w hSw; (try dsimp only at hSw); go_simp; all_goals with_reducible rfl)
            try simp only [Act.put, List.setIfInBounds_toArray, List.set_cons_zero, List.set_cons_succ]
            refine wpAnyH_take (i := 15) (oi := ⟨some 30, _, _, _, _, _⟩) (v := ?_) rfl (by kernel_rfl) (by kernel_rfl) (by kernel_rfl) (fun _ _ _ h => h) (Or.inl ⟨by rfl, ?_⟩) (by assumption) ?_
            rotate_left 1
            · (intro w hSw; (try dsimp only at hSw); go_simp; all_goals with_reducible rfl)
            try simp only [Act.put, List.setIfInBounds_toArray, List.set_cons_zero, List.set_cons_succ]
            refine wpAnyH_take (i := 16) (oi := ⟨some 31, _, _, _, _, _⟩) (v := ?_) rfl (by kernel_rfl) (by kernel_rfl) (by kernel_rfl) (fun _ _ _ h => h) (Or.inl ⟨by rfl, ?_⟩) (by assumption) ?_
            rotate_left 1
            · (intro w hSw; (try dsimp only at hSw); go_simp; all_goals with_reducible rfl)
            try simp only [Act.put, List.setIfInBounds_toArray, List.set_cons_zero, List.set_cons_succ]
            refine wpAnyH_take (i := 17) (oi := ⟨some 32, _, _, _, _, _⟩) (v := ?_) rfl (by kernel_rfl) (by kernel_rfl) (by kernel_rfl) (fun _ _ _ h => h) (Or.inl ⟨by rfl, ?_⟩) (by assumption) ?_
            rotate_left 1
            · (intro w hSw; (try dsimp only at hSw); go_simp; all_goals with_reducible rfl)
            try simp only [Act.put, List.setIfInBounds_toArray, List.set_cons_zero, List.set_cons_succ]
            refine wpAnyH_take (i := 18) (oi := ⟨some 33, _, _, _, _, _⟩) (v := ?_) rfl (by kernel_rfl) (by kernel_rfl) (by kernel_rfl) (fun _ _ _ h => h) (Or.inl ⟨by rfl, ?_⟩) (by assumption) ?_
            rotate_left 1
            · (intro w hSw; (try dsimp only at hSw); go_simp; all_goals with_reducible rfl)
            try simp only [Act.put, List.setIfInBounds_toArray, List.set_cons_zero, List.set_cons_succ]
            refine wpAnyH_take (i := 19) (oi := ⟨some 34, _, _, _, _, _⟩) (v := ?_) rfl (by kernel_rfl) (by kernel_rfl) (by kernel_rfl) (fun _ _ _ h => h) (Or.inl ⟨by rfl, ?_⟩) (by assumption) ?_
            rotate_left 1
            · (intro w hSw; (try dsimp only at hSw); go_simp; all_goals with_reducible rfl)
            try simp only [Act.put, List.setIfInBounds_toArray, List.set_cons_zero, List.set_cons_succ]
            refine wpAnyH_done (by kernel_rfl) ?_ _
            go_wp2
            refine wp_region_held_drew (S := fun w' => Frm [] wr w') (by kernel_rfl) (Frm.drew (Frm.drew (Frm.refl _ _))) (fun hHeld => ?_)
            refine wpAnyH_take (i := 0) (oi := ⟨some 37, _, _, _, _, _⟩) (v := ?_) rfl (by kernel_rfl) (by kernel_rfl) (by kernel_rfl) (fun _ _ _ h => h) (Or.inl ⟨by rfl, ?_⟩) (by assumption) ?_
            rotate_left 1
            · (intro w hSw; (try dsimp only at hSw); go_simp; all_goals with_reducible rfl)
            try simp only [Act.put, List.setIfInBounds_toArray, List.set_cons_zero, List.set_cons_succ]
            refine wpAnyH_take (i := 1) (oi := ⟨some 38, _, _, _, _, _⟩) (v := ?_) rfl (by kernel_rfl) (by kernel_rfl) (by kernel_rfl) (fun _ _ _ h => h) (Or.inl ⟨by rfl, ?_⟩) (by assumption) ?_
            rotate_left 1
            · (intro w hSw; (try dsimp only at hSw); go_simp; all_goals with_reducible rfl)
            try simp only [Act.put, List.setIfInBounds_toArray, List.set_cons_zero, List.set_cons_succ]
            refine wpAnyH_take (i := 2) (oi := ⟨some 39, _, _, _, _, _⟩) (v := ?_) rfl (by kernel_rfl) (by kernel_rfl) (by kernel_rfl) (fun _ _ _ h => h) (Or.inl ⟨by rfl, ?_⟩) (by assumption) ?_
            rotate_left 1
            · (intro w hSw; (try dsimp only at hSw); go_simp; all_goals with_reducible rfl)
            try simp only [Act.put, List.setIfInBounds_toArray, List.set_cons_zero, List.set_cons_succ]
            refine wpAnyH_take (i := 3) (oi := ⟨some 40, _, _, _, _, _⟩) (v := ?_) rfl (by kernel_rfl) (by kernel_rfl) (by kernel_rfl) (fun _ _ _ h => h) (Or.inl ⟨by rfl, ?_⟩) (by assumption) ?_
            rotate_left 1
            · (intro w hSw; (try dsimp only at hSw); go_simp; all_goals with_reducible rfl)
            try simp only [Act.put, List.setIfInBounds_toArray, List.set_cons_zero, List.set_cons_succ]
            refine wpAnyH_take (i := 4) (oi := ⟨some 41, _, _, _, _, _⟩) (v := ?_) rfl (by kernel_rfl) (by kernel_rfl) (by kernel_rfl) (fun _ _ _ h => h) (Or.inl ⟨by rfl, ?_⟩) (by assumption) ?_
            rotate_left 1
            · (intro w hSw; (try dsimp only at hSw); go_simp; all_goals with_reducible rfl)
            try simp only [Act.put, List.setIfInBounds_toArray, List.set_cons_zero, List.set_cons_succ]
            refine wpAnyH_take (i := 5) (oi := ⟨some 42, _, _, _, _, _⟩) (v := ?_) rfl (by kernel_rfl) (by kernel_rfl) (by kernel_rfl) (fun _ _ _ h => h) (Or.inl ⟨by rfl, ?_⟩) (by assumption) ?_
            rotate_left 1
            · (intro w hSw; (try dsimp only at hSw); go_simp; all_goals with_reducible rfl)
            try simp only [Act.put, List.setIfInBounds_toArray, List.set_cons_zero, List.set_cons_succ]
            refine wpAnyH_take (i := 6) (oi := ⟨some 43, _, _, _, _, _⟩) (v := ?_) rfl (by kernel_rfl) (by kernel_rfl) (by kernel_rfl) (fun _ _ _ h => h) (Or.inl ⟨by rfl, ?_⟩) (by assumption) ?_
            rotate_left 1
            · (intro w hSw; (try dsimp only at hSw); go_simp; all_goals with_reducible rfl)
            try simp only [Act.put, List.setIfInBounds_toArray, List.set_cons_zero, List.set_cons_succ]
            refine wpAnyH_take (i := 7) (oi := ⟨some 44, _, _, _, _, _⟩) (v := ?_) rfl (by kernel_rfl) (by kernel_rfl) (by kernel_rfl) (fun _ _ _ h => h) (Or.inl ⟨by rfl, ?_⟩) (by assumption) ?_
            rotate_left 1
            · (intro w hSw; (try dsimp only at hSw); go_simp; all_goals with_reducible rfl)
            try simp only [Act.put, List.setIfInBounds_toArray, List.set_cons_zero, List.set_cons_succ]
            refine wpAnyH_take (i := 8) (oi := ⟨some 45, _, _, _, _, _⟩) (v := ?_) rfl (by kernel_rfl) (by kernel_rfl) (by kernel_rfl) (fun _ _ _ h => h) (Or.inl ⟨by rfl, ?_⟩) (by assumption) ?_
            rotate_left 1
            · (intro w hSw; (try dsimp only at hSw); go_simp; all_goals with_reducible rfl)
            try simp only [Act.put, List.setIfInBounds_toArray, List.set_cons_zero, List.set_cons_succ]
            refine wpAnyH_take (i := 9) (oi := ⟨some 46, _, _, _, _, _⟩) (v := ?_) rfl (by kernel_rfl) (by kernel_rfl) (by kernel_rfl) (fun _ _ _ h => h) (Or.inl ⟨by rfl, ?_⟩) (by assumption) ?_
            rotate_left 1
            · (intro w hSw; (try dsimp only at hSw); go_simp; all_goals with_reducible rfl)
            try simp only [Act.put, List.setIfInBounds_toArray, List.set_cons_zero, List.set_cons_succ]
            refine wpAnyH_take (i := 10) (oi := ⟨some 47, _, _, _, _, _⟩) (v := ?_) rfl (by kernel_rfl) (by kernel_rfl) (by kernel_rfl) (fun _ _ _ h => h) (Or.inl ⟨by rfl, ?_⟩) (by assumption) ?_
            rotate_left 1
            · (intro w hSw; (try dsimp only at hSw); go_simp; all_goals with_reducible rfl)
            try simp only [Act.put, List.setIfInBounds_toArray, List.set_cons_zero, List.set_cons_succ]
            refine wpAnyH_take (i := 12) (oi := ⟨some 49, _, _, _, _, _⟩) (v := ?_) rfl (by kernel_rfl) (by kernel_rfl) (by kernel_rfl) (fun _ _ _ h => h) (Or.inl ⟨by rfl, ?_⟩) (by assumption) ?_
            rotate_left 1
            · (intro w hSw; (try dsimp only at hSw); go_simp; all_goals with_reducible rfl)
            try simp only [Act.put, List.setIfInBounds_toArray, List.set_cons_zero, List.set_cons_succ]
            refine wpAnyH_take (i := 13) (oi := ⟨some 50, _, _, _, _, _⟩) (v := ?_) rfl (by kernel_rfl) (by kernel_rfl) (by kernel_rfl) (fun _ _ _ h => h) (Or.inl ⟨by rfl, ?_⟩) (by assumption) ?_
            rotate_left 1
            · (intro w hSw; (try dsimp only at hSw); go_simp; all_goals with_reducible rfl)
            try simp only [Act.put, List.setIfInBounds_toArray, List.set_cons_zero, List.set_cons_succ]
            refine wpAnyH_take (i := 14) (oi := ⟨some 51, _, _, _, _, _⟩) (v := ?_) rfl (by kernel_rfl) (by kernel_rfl) (by kernel_rfl) (fun _ _ _ h => h) (Or.inl ⟨by rfl, ?_⟩) (by assumption) ?_
            rotate_left 1
            · (intro w hSw; (try dsimp only at hSw); go_simp; all_goals with_reducible rfl)
            try simp only [Act.put, List.setIfInBounds_toArray, List.set_cons_zero, List.set_cons_succ]
            refine wpAnyH_ready (rs := [11]) (by kernel_rfl) (by simp) ?_
            refine AllReadyH.cons (o := ⟨some 48, _, _, _, _, _⟩) rfl (fun K hK => ?_) AllReadyH.nil
            go_simp
            refine hK.out _ _ (by repeat (first | assumption | apply Frm.alloc | apply Frm.drew | exact Frm.refl _ _)) (fun hHeld => ?_)
            clear hK K
            try simp only [Act.put, List.setIfInBounds_toArray, List.set_cons_zero, List.set_cons_succ]
            refine wpAnyH_ready (rs := [15]) (by kernel_rfl) (by simp) ?_
            refine AllReadyH.cons (o := ⟨some 52, _, _, _, _, _⟩) rfl (fun K hK => ?_) AllReadyH.nil
            refine step_appS (by rfl) (.tmp 48) (.tmp 51) 27 rfl w.heap.size 42 i0 (.agg #[.string ⟨#[]⟩, .int .u64 0, .int .u64 0, .int .u64 0, .int .u64 0]) 5 48 Try.underlying27 HI.out HZ0.out rfl (by decide) HZ1.out HZ2.out (by decide) (.slice (some ⟨wr.heap.size, 0, none⟩) 1 1) 1 _ rfl (LIT.out wr.drew.drew (Frm.drew (Frm.drew (Frm.refl _ _)))) _ n2 c2 _ rfl (V2.out _ hHeld) HL2.out (lnc_one _) HCN.out hfit1 (Nat.le_trans FZ.out.size hHeld.size) (1 + n2) rfl ?_; intro a3 c3 w3 happ3; have f3 : Frm [] wr w3 := hHeld.grown happ3.grown (fun g hg => .inr (by simp [Value.ownBlock] at hg; omega)); have O3 := Lib.hid (own_vals happ3.own); clear happ3
            refine hK.out _ _ (by repeat (first | assumption | apply Frm.alloc | apply Frm.drew | exact Frm.refl _ _)) (fun hHeld => ?_)
            clear hK K
            try simp only [Act.put, List.setIfInBounds_toArray, List.set_cons_zero, List.set_cons_succ]
            refine wpAnyH_ready (rs := [16]) (by kernel_rfl) (by simp) ?_
            refine AllReadyH.cons (o := ⟨some 53, _, _, _, _, _⟩) rfl (fun K hK => ?_) AllReadyH.nil
            refine step_appT (by rfl) (.tmp 40) (.tmp 52) 27 rfl w.heap.size 42 i0 (.agg #[.string ⟨#[]⟩, .int .u64 0, .int .u64 0, .int .u64 0, .int .u64 0]) 5 48 Try.underlying27 HI.out HZ0.out rfl (by decide) HZ1.out HZ2.out (by decide) _ j _ rfl (V1.out _ f3) HL1.out _ (1 + n2) c3 _ rfl O3.out HL12.out HONE.out hpos hfit2 (Nat.le_trans FZ.out.size f3.size) HAN.out (m + 1) HSUM.out ?_; intro a4 c4 w4 h4 f34 g4; have NREL := Lib.hid (TAIL.out _ f3 a4 c4 w4 f34 g4 h4); have f4 : Frm [] wr w4 := f3.trans f34 (by simp) (by simp); clear h4 f34 g4
            refine hK.out _ _ (by repeat (first | assumption | apply Frm.alloc | apply Frm.drew | exact Frm.refl _ _)) (fun hHeld => ?_)
            clear hK K
            try simp only [Act.put, List.setIfInBounds_toArray, List.set_cons_zero, List.set_cons_succ]
            refine wpAnyH_take (i := 17) (oi := ⟨some 3, _, _, _, _, _⟩) (v := ?_) rfl (by kernel_rfl) (by kernel_rfl) (by kernel_rfl) (fun _ _ _ h => h) (Or.inl ⟨by rfl, ?_⟩) (by assumption) ?_
            rotate_left 1
            · (intro w hSw; (try dsimp only at hSw); go_simp; all_goals with_reducible rfl)
            try simp only [Act.put, List.setIfInBounds_toArray, List.set_cons_zero, List.set_cons_succ]
            refine wpAnyH_done (by kernel_rfl) ?_ _
            clear f3 f4 O3
            go_wp2
            go_roundw
            case rel => exact NREL.out
            case measure => simp [intOf]; omega
    · have hkx : X.take k = X := List.take_of_length_le (by have := HN.out; omega)
      have ho := HO.out
      rw [hkx] at ho ⊢
      have HO2 := Lib.hid ho
      clear ho hkx HO hk
      obtain ⟨m, hm⟩ : ∃ m, m = (allX X).length := ⟨_, rfl⟩
      rw [← hm]
      have HM := Lib.hid hm; clear hm
      go_wp2
      go_ret
      exact ⟨a', c', by rw [← HM.out]; rfl, HO2.out, HF.out⟩
end Go.Proofs.Ytahhkffghhgojaa
/- Plain arithmetic: a number's bytes, the greatest first (be), and back (val). It speaks of no program. -/
namespace Go.Proofs.Ytahhkffghhgojaa

def be : Nat → Nat → List Nat
  | 0, _ => []
  | k + 1, n => be k (n / 256) ++ [n % 256]
def val (l : List Nat) : Nat := l.foldl (fun x c => x * 256 + c) 0

theorem be_length (k n : Nat) : (be k n).length = k := by
  induction k generalizing n with
  | zero => rfl
  | succ k ih => simp [be, ih]
theorem be_lt (k n : Nat) : ∀ c ∈ be k n, c < 256 := by
  induction k generalizing n with
  | zero => simp [be]
  | succ k ih =>
    intro c hc
    rcases List.mem_append.1 hc with h | h
    · exact ih _ c h
    · simp at h; omega
/-- The eight bytes of a number, each by itself. -/
theorem be8 (n : Nat) (h : n < 18446744073709551616) : be 8 n = [n / 72057594037927936, n / 281474976710656 % 256, n / 1099511627776 % 256, n / 4294967296 % 256, n / 16777216 % 256, n / 65536 % 256, n / 256 % 256, n % 256] := by
  simp only [be, List.nil_append, List.cons_append, List.cons.injEq, and_true]
  repeat' apply And.intro
  all_goals omega
theorem be_drop (k n : Nat) (hk : k ≤ 8) : (be 8 n).drop (8 - k) = be k n := by
  have H : ∀ (m k n : Nat), (be (m + k) n).drop m = be k n := by
    intro m k
    induction k with
    | zero => intro n; simp [be, be_length]
    | succ k ih =>
      intro n
      show (be (m + k) (n / 256) ++ [n % 256]).drop m = _
      rw [List.drop_append_of_le_length (by rw [be_length]; omega), ih]; rfl
  have := H (8 - k) k n
  rwa [show 8 - k + k = 8 by omega] at this
end Go.Proofs.Ytahhkffghhgojaa
/- Contract of bytes.Clone: for every slice of bytes, nil or not: a row of the call's own with the same bytes. -/
namespace Go.Proofs.Ytahhkffghhgojaa
open Go.RowKit

theorem Try.info5 : (Try.prog.info? 5).map (fun i => (i.zero, i.size, i.bytes)) = some (some (.int .u8 0), 1, 1) := by kernel_rfl

/-- What a call hands back that makes bytes of its own: a slice value, the row that it owns from base on. -/
def Own (w w' : World) (l : List Nat) (e : Ending) : Prop :=
  ∃ a' cap', e = .returned (.slice a' l.length cap') ∧ w'.ownsRow w.heap.size 5 1 (.slice a' l.length cap') l.length (l.map u8v) ∧ Frm [] w w'

theorem clone_any (a : Option Addr) (n cap : Nat) (l : List Nat) (w : World) (hl : Bytes w a l) (hn : n = l.length) (hnil : a = none → cap = 0) (hfit : n ≤ 140737488355328) :
    Calls Try.prog 34 #[.slice a n cap] w fun e w' => Own w w' l e := by
  have hq := fun (w : World) (a : Option Addr) (n c n' c' : Nat) => Lib.run_eql_slice_nil (P := Try.prog) w 47 5 a n c n' c' Try.underlying47
  cases a with
  | none =>
    have h0 : l = [] := by
      rcases hl.2.2 with h | ⟨b, off, h, _⟩
      · exact h
      · cases h
    subst h0
    obtain rfl := hnil rfl
    subst hn
    go_enter Try.func34, Try.ntmps34
    go_wp2
    go_ret
    exact ⟨none, 0, rfl, World.ownsRow_nil _ _ _ _, Frm.refl _ _⟩
  | some x =>
    obtain ⟨i0, hi, hz0, hz1, hz2⟩ := info_parts Try.info5
    have HL := Lib.hid hl; clear hl
    have HN := Lib.hid hn; clear hn
    have HI := Lib.hid hi; clear hi
    have HZ0 := Lib.hid hz0; clear hz0
    have HZ1 := Lib.hid hz1; clear hz1
    have HZ2 := Lib.hid hz2; clear hz2
    clear hnil
    go_enter Try.func34, Try.ntmps34
    go_wp2_with (at_builtin; refine wpList_append_bytes rfl (.tmp 5) (.tmp 6) 47 rfl w.heap.size 5 i0 Try.underlying47 HI.out HZ0.out HZ1.out HZ2.out _ 0 [] rfl ?own1 _ _ _ l rfl ?b1 HN.out ?nil1 ?fit1 ?base1 ?_)
    case own1 => exact World.ownsRow_lit w #[] 0 (Nat.le_refl _) (by unfold maxLen; omega) rfl
    case b1 => exact ((Frm.refl [] w).alloc _).bytes HL.out (by simp)
    case nil1 => intro h; cases h
    case fit1 => omega
    case base1 => simp
    intro a2 cap2 w2 hown2 hg2
    have hf2 : Frm [] w w2 := ((Frm.refl [] w).alloc _).grown hg2 (fun k hk => .inr (by simp [Value.ownBlock] at hk; omega))
    clear hg2
    go_wp2
    go_ret
    have h := HN.out
    subst h
    exact ⟨a2, cap2, rfl, hown2, hf2⟩
/-- What comes of a row of the call's own. -/
theorem own_bytes {w' : World} {base : Nat} {a : Option Addr} {cap : Nat} {l : List Nat} (h : w'.ownsRow base 5 1 (.slice a l.length cap) l.length (l.map u8v)) (h8 : ∀ c ∈ l, c < 256) :
    Bytes w' a l ∧ (a = none → cap = 0) := ⟨(bytes_of_own h h8).2.1, (bytes_of_own h h8).2.2⟩
end Go.Proofs.Ytahhkffghhgojaa
/- Contracts of the reference's Put and PutBytes: a number's bytes, or how many and they, behind a row of the call's own. -/
namespace Go.Proofs.Ytahhkffghhgojaa
open Go.RowKit

/-- The block of an address. -/
def ob : Option Addr → List Nat
  | some x => [x.block]
  | none => []
theorem ob_some {a : Option Addr} {n c g : Nat} : (Value.slice a n c).ownBlock = some g ↔ g ∈ ob a := by cases a <;> simp [Value.ownBlock, ob, eq_comm]

/-- What putting the bytes b behind an own row leaves. -/
def RPut (w : World) (base : Nat) (a : Option Addr) (l b : List Nat) (e : Ending) (w' : World) : Prop :=
  ∃ a' cap', e = .returned (.slice a' (l ++ b).length cap') ∧ w'.ownsRow base 5 1 (.slice a' (l ++ b).length cap') (l ++ b).length ((l ++ b).map u8v) ∧ Frm (ob a) w w' ∧
    ∀ g ∈ ob a', g ∈ ob a ∨ w.heap.size ≤ g

theorem be_getD (k n m : Nat) (hm : m < k) : (be k n).getD m 0 = n / 256 ^ (k - 1 - m) % 256 := by
  induction k generalizing n with
  | zero => omega
  | succ k ih =>
    by_cases h : m < k
    · have e : (be (k + 1) n).getD m 0 = (be k (n / 256)).getD m 0 := by
        simp [be, List.getD, List.getElem?_append, be_length, h]
      rw [e, ih _ h, Nat.div_div_eq_div_mul, show k + 1 - 1 - m = (k - 1 - m) + 1 by omega, Nat.pow_succ, Nat.mul_comm]
    · have : m = k := by omega
      subst this
      simp [be, List.getD, be_length]
theorem be_take_succ (k n m : Nat) (hm : m < k) : (be k n).take (m + 1) = (be k n).take m ++ [n / 256 ^ (k - 1 - m) % 256] := by
  rw [take_snoc_getD (by rw [be_length]; exact hm), be_getD k n m hm]

theorem one_byte (w : World) (y : Nat) (t : TypeId) : Bytes (w.alloc (.cells #[.int .u8 ((y : Int) % 256)] t)) (some ⟨w.heap.size, 0, none⟩) [y % 256] := by
  refine ⟨fun c hc => by simp at hc; omega, by simp, .inr ⟨_, _, rfl, fun i hi => ?_⟩⟩
  simp at hi
  subst hi
  rw [(Whole.made w t _).cell]
  rfl
/-- What holds at the head of Put's loop: so many bytes are put. -/
def RpRel (base k ln n : Nat) (a : Option Addr) (l : List Nat) (w : World) (b i : Value) (wr : World) : Prop :=
  ∃ (m : Nat) (a' : Option Addr) (cap' : Nat), m ≤ k ∧ i = .int .i64 ((k : Int) - 1 - m) ∧ b = .slice a' (ln + m) cap' ∧
      wr.ownsRow base 5 1 (.slice a' (ln + m) cap') (ln + m) ((l ++ (be k n).take m).map u8v) ∧ Frm (ob a) w wr ∧ ∀ g ∈ ob a', g ∈ ob a ∨ w.heap.size ≤ g
theorem rp_step {base k ln n m : Nat} {a a' a2 : Option Addr} {cap' cap2 : Nat} {l : List Nat} {w wr wx w2 : World} {c : Nat} {b2 i2 : Value} (hm : m < k) (hc : c = n / 256 ^ (k - 1 - m) % 256)
    (hf : Frm (ob a) w wr) (hg : ∀ g ∈ ob a', g ∈ ob a ∨ w.heap.size ≤ g) (hx : Frm [] wr wx)
    (h : App wx w2 base 5 (.slice a' (ln + m) cap') (ln + m) 1 ((l ++ (be k n).take m).map u8v) [c] a2 cap2) (hi : i2 = .int .i64 ((k : Int) - 1 - (m + 1 : Nat))) (hb : b2 = .slice a2 (ln + m + 1) cap2) :
    RpRel base k ln n a l w b2 i2 w2 := by
  refine ⟨m + 1, a2, cap2, by omega, hi, by rw [hb]; rfl, ?_, ?_, ?_⟩
  · have := h.own
    rw [← List.map_append, List.append_assoc, hc, ← be_take_succ k n m hm] at this
    exact this
  · refine (hf.trans hx (fun x h => h) (by simp)).grown h.grown ?_
    intro g hgg
    exact hg g (ob_some.1 hgg)
  · intro g hgg
    rcases h.place with hp | hp
    · exact hg g (ob_some.1 (hp ▸ ob_some.2 hgg))
    · have := (ob_some (n := ln + m + 1) (c := cap2)).2 hgg
      rw [hp] at this
      right
      have h1 := hx.size
      have h2 := hf.size
      simp at this
      omega

set_option maxRecDepth 100000 in
set_option maxHeartbeats 2000000 in
theorem ref_put_any (base : Nat) (a : Option Addr) (cap : Nat) (l : List Nat) (n k : Nat) (w : World) (hown : w.ownsRow base 5 1 (.slice a l.length cap) l.length (l.map u8v)) (hbase : base ≤ w.heap.size)
    (hn : n < 18446744073709551616) (hk : k ≤ 8) (hfit : l.length + k ≤ 140737488355328) :
    Calls Try.prog 32 #[.slice a l.length cap, .int .u64 n, .int .i64 k] w (RPut w base a l (be k n)) := by
  obtain ⟨i0, hi, hz0, hz1, hz2⟩ := info_parts Try.info5
  have HI := Lib.hid hi; clear hi
  have HZ0 := Lib.hid hz0; clear hz0
  have HZ1 := Lib.hid hz1; clear hz1
  have HZ2 := Lib.hid hz2; clear hz2
  obtain ⟨ln, hln⟩ : ∃ ln, ln = l.length := ⟨_, rfl⟩
  rw [← hln] at hown hfit ⊢
  have HO := Lib.hid hown; clear hown
  have HL := Lib.hid hln; clear hln
  go_enter Try.func32, Try.ntmps32
  go_wp2
  go_loopw [0, 7, 8, 9] (fun b i _ _ wr => RpRel base k ln n a l w b i wr) (fun _ i _ _ _ => (intOf i + 1).toNat)
  case atStart => exact ⟨0, a, cap, Nat.zero_le _, by simp, by simp, by simpa using HO.out, Frm.refl _ _, fun g hg => .inl hg⟩
  case round =>
    obtain ⟨m, a', cap', hm, rfl, rfl, hown, hf, hg⟩ := hrel
    have HF := Lib.hid hf; clear hf
    have HG := Lib.hid hg; clear hg
    obtain ⟨xs, hxs⟩ : ∃ xs, xs = (l ++ (be k n).take m).map u8v := ⟨_, rfl⟩
    rw [← hxs] at hown
    have HXS := Lib.hid hxs; clear hxs
    have HO1 := Lib.hid hown; clear hown
    by_cases hlt : m < k
    · obtain ⟨t, ht⟩ : ∃ t : Nat, t = k - 1 - m := ⟨_, rfl⟩
      have et : (k : Int) - 1 - m = (t : Int) := by omega
      have hkb : (k : Int) ≤ 8 := by omega
      have hmt : Hid (m + t + 1 = k) := by show m + t + 1 = k; omega
      have HT := Lib.hid ht; clear ht
      rw [et]
      clear et
      have htk : t < 8 := by have := hmt.out; omega
      go_wp2
      go_loop [8, 9] (fun x j => ∃ q : Nat, q ≤ t ∧ j = .int .i64 q ∧ x = .int .u64 (n / 256 ^ q : Nat)) (fun _ j => t - (intOf j).toNat)
      case atStart => exact ⟨0, Nat.zero_le _, rfl, by simp⟩
      case round =>
        obtain ⟨q, hq, rfl, rfl⟩ := hrel
        have hx : n / 256 ^ q < 18446744073709551616 := Nat.lt_of_le_of_lt (Nat.div_le_self _ _) hn
        have hd : n / 256 ^ (q + 1) = n / 256 ^ q / 256 := by rw [Nat.pow_succ, Nat.div_div_eq_div_mul]
        obtain ⟨y, hy⟩ : ∃ y, y = n / 256 ^ q := ⟨_, rfl⟩
        rw [← hy] at hx hd ⊢
        have HY := Lib.hid hy; clear hy
        have HD := Lib.hid hd; clear hd
        by_cases hqt : q < t
        · go_wp2
          go_round
          case rel => exact ⟨q + 1, by omega, by go_num, same_int (by rw [HD.out]; omega)⟩
          case measure => simp [intOf]; omega
        · obtain rfl : q = t := by omega
          go_wp2_with (at_builtin; refine wpList_app rfl (.tmp 24) (.tmp 28) 47 rfl base 5 i0 Try.underlying47 HI.out HZ0.out HZ1.out HZ2.out (.slice a' (ln + m) cap') (ln + m) xs rfl ?own1 _ _ _ [y % 256] rfl ?b1 rfl (by simp) ?fit1 ?base1 ?_)
          case own1 => exact HO1.out.alloc _
          case b1 => exact one_byte wr y 5
          case fit1 => omega
          case base1 => have := HF.out.size; simp; omega
          intro a2 cap2 w2 happ
          have HAPP := Lib.hid happ; clear happ
          go_wp2
          go_roundw
          case rel =>
            have e : q = k - 1 - m := HT.out
            refine rp_step (c := y % 256) hlt (by rw [HY.out, e]) HF.out HG.out ((Frm.refl [] wr).alloc _) (by rw [← HXS.out]; exact HAPP.out) ?_ rfl
            have := hmt.out
            congr 1
            omega
          case measure => simp [intOf]
    · obtain rfl : m = k := by omega
      have e1 : (m : Int) - 1 - m = -1 := by omega
      rw [e1]
      clear e1
      go_wp2
      go_ret
      have e : (be m n).take m = be m n := List.take_of_length_le (by rw [be_length]; exact Nat.le_refl _)
      have e2 : (l ++ be m n).length = ln + m := by rw [List.length_append, be_length, HL.out]
      have h1 := HO1.out
      rw [HXS.out, e] at h1
      exact ⟨a', cap', by rw [e2]; rfl, by rw [e2]; exact h1, HF.out, HG.out⟩

theorem RPut.mk {w w1 w2 : World} {base : Nat} {a a1 a2 : Option Addr} {cap1 cap2 : Nat} {l b c : List Nat}
    (hf1 : Frm (ob a) w w1) (hg1 : ∀ g ∈ ob a1, g ∈ ob a ∨ w.heap.size ≤ g)
    (h : App w1 w2 base 5 (.slice a1 (l ++ b).length cap1) (l ++ b).length c.length ((l ++ b).map u8v) c a2 cap2) :
    RPut w base a l (b ++ c) (.returned (.slice a2 ((l ++ b).length + c.length) cap2)) w2 := by
  have e : (l ++ (b ++ c)).length = (l ++ b).length + c.length := by simp; omega
  refine ⟨a2, cap2, by rw [e], ?_, hf1.grown h.grown ?_, ?_⟩
  · have := h.own
    rw [← List.map_append] at this
    rw [e, ← List.append_assoc]; exact this
  · intro g hg; exact hg1 g (ob_some.1 hg)
  · intro g hgg
    rcases h.place with hp | hp
    · exact hg1 g (ob_some.1 (hp ▸ ob_some.2 hgg))
    · have := (ob_some (n := (l ++ b).length + c.length) (c := cap2)).2 hgg
      rw [hp] at this
      right
      have h1 := hf1.size
      simp at this
      omega

set_option maxRecDepth 100000 in
set_option maxHeartbeats 1000000 in
theorem ref_putbytes_any (base : Nat) (a : Option Addr) (cap : Nat) (l : List Nat) (ca : Option Addr) (cn ccap : Nat) (c : List Nat) (w : World) (hown : w.ownsRow base 5 1 (.slice a l.length cap) l.length (l.map u8v)) (hbase : base ≤ w.heap.size)
    (hc : Bytes w ca c) (hca : c ≠ [] → ∀ x, ca = some x → x.block ∉ ob a) (hcn : cn = c.length) (hnil : ca = none → ccap = 0) (hfit : l.length + 4 + cn ≤ 140737488355328) :
    Calls Try.prog 33 #[.slice a l.length cap, .slice ca cn ccap] w (RPut w base a l (be 4 cn ++ c)) := by
  obtain ⟨i0, hi, hz0, hz1, hz2⟩ := info_parts Try.info5
  have HI := Lib.hid hi; clear hi
  have HZ0 := Lib.hid hz0; clear hz0
  have HZ1 := Lib.hid hz1; clear hz1
  have HZ2 := Lib.hid hz2; clear hz2
  have HPUT := Lib.hid (ref_put_any base a cap l cn 4 w hown hbase (by omega) (by omega) (by omega))
  clear hown
  obtain ⟨ln, hln⟩ : ∃ ln, ln = l.length := ⟨_, rfl⟩
  rw [← hln] at hfit HPUT ⊢
  have HL := Lib.hid hln; clear hln
  have HC := Lib.hid hc; clear hc
  have HCA := Lib.hid hca; clear hca
  have HCN := Lib.hid hcn; clear hcn
  go_enter Try.func33, Try.ntmps33
  go_wp2_with fail
  refine HPUT.out.mono ?_
  rintro e w1 ⟨a1, cap1, rfl, hown1, hf1, hg1⟩
  have HF := Lib.hid hf1; clear hf1
  have HG := Lib.hid hg1; clear hg1
  obtain ⟨xs, hxs⟩ : ∃ xs, xs = (l ++ be 4 cn).map u8v := ⟨_, rfl⟩
  obtain ⟨m, hm⟩ : ∃ m, m = (l ++ be 4 cn).length := ⟨_, rfl⟩
  rw [← hxs, ← hm] at hown1
  rw [← hm]
  have hm4 : m = ln + 4 := by rw [hm, List.length_append, be_length, HL.out]
  have hfit1 : m + cn ≤ 140737488355328 := by omega
  have HXS := Lib.hid hxs; clear hxs
  have HM := Lib.hid hm; clear hm hm4
  have HO1 := Lib.hid hown1; clear hown1
  go_wp2_with (at_builtin; refine wpList_app rfl (.tmp 9) (.tmp 10) 47 rfl base 5 i0 Try.underlying47 HI.out HZ0.out HZ1.out HZ2.out (.slice a1 m cap1) m xs rfl HO1.out _ _ _ c rfl ?b1 HCN.out hnil hfit1 ?base1 ?_)
  case b1 => exact HF.out.bytes' HC.out HCA.out
  case base1 => have := HF.out.size; omega
  intro a2 cap2 w2 happ
  have HAPP := Lib.hid happ; clear happ
  go_wp2
  go_ret
  have h := HAPP.out
  rw [HXS.out, HM.out, HCN.out] at h
  rw [HM.out, HCN.out]
  exact RPut.mk HF.out HG.out h
end Go.Proofs.Ytahhkffghhgojaa
/- A row of bytes of the call's own: the document's Put, PutBytes. -/
namespace Go.Proofs.Ytahhkffghhgojaa
open Go.RowKit
set_option maxRecDepth 100000
/-- A row of bytes of the call's own, since w0. -/
structure RcW (w0 z : World) (a : Option Addr) (n cap : Nat) (l : List Nat) : Prop where
  len : n = l.length
  own : z.ownsRow w0.heap.size 5 1 (.slice a n cap) n (l.map u8v)
  frm : Frm [] w0 z
  new : ∀ x ∈ ob a, w0.heap.size ≤ x
theorem RcW.start (w0 : World) : RcW w0 w0 none 0 0 [] := ⟨rfl, World.ownsRow_nil _ _ _ _, Frm.refl _ _, by simp [ob]⟩
theorem RcW.keep {w0 z z' : World} {a : Option Addr} {n cap : Nat} {l : List Nat} (h : RcW w0 z a n cap l) (hf : Frm [] z z') : RcW w0 z' a n cap l :=
  ⟨h.len, hf.own h.own (fun _ _ hm => by simp at hm), h.frm.trans hf (by simp) (by simp), h.new⟩
def RcE (w0 : World) (l : List Nat) (e : Ending) (z' : World) : Prop := ∃ a' n' cap', e = .returned (.slice a' n' cap') ∧ Hid (RcW w0 z' a' n' cap' l)
theorem rc_put {w0 z : World} {a : Option Addr} {n0 cap : Nat} {l : List Nat} (n k : Nat) (i : Int) (hi : i = (k : Nat)) (h : RcW w0 z a n0 cap l) (hn : n < 18446744073709551616) (hk : k ≤ 8) (hfit : l.length ≤ 100000000) :
    Calls Try.prog 32 #[.slice a n0 cap, .int .u64 n, .int .i64 i] z (RcE w0 (l ++ be k n)) := by
  obtain ⟨h0, h1, h2, h3⟩ := h
  subst h0; subst hi
  refine (ref_put_any w0.heap.size a cap l n k z h1 h2.size hn hk (by omega)).mono fun e w' hp => ?_
  obtain ⟨a', cap', he, ho, hf, hx⟩ := hp
  have hs := h2.size
  exact ⟨a', _, cap', he, Lib.hid ⟨rfl, ho, h2.trans hf (by simp) (fun x hx => .inr (h3 x hx)), fun x hm => by
    rcases hx x hm with h1 | h1
    · exact h3 x h1
    · omega⟩⟩
theorem rc_bytes {w0 z : World} {a : Option Addr} {n0 cap : Nat} {l : List Nat} (ca : Option Addr) (cn ccap : Nat) (c : List Nat) (h : RcW w0 z a n0 cap l) (hc : Bytes z ca c) (hca : c ≠ [] → ∀ x, ca = some x → x.block ∉ ob a) (hcn : cn = c.length) (hnil : ca = none → ccap = 0) (hfit : l.length ≤ 100000000) (hfit2 : cn ≤ 100000000) :
    Calls Try.prog 33 #[.slice a n0 cap, .slice ca cn ccap] z (RcE w0 (l ++ (be 4 cn ++ c))) := by
  obtain ⟨h0, h1, h2, h3⟩ := h
  subst h0
  refine (ref_putbytes_any w0.heap.size a cap l ca cn ccap c z h1 h2.size hc hca hcn hnil (by omega)).mono fun e w' hp => ?_
  obtain ⟨a', cap', he, ho, hf, hx⟩ := hp
  have hs := h2.size
  exact ⟨a', _, cap', he, Lib.hid ⟨rfl, ho, h2.trans hf (by simp) (fun x hx => .inr (h3 x hx)), fun x hm => by
    rcases hx x hm with h1 | h1
    · exact h3 x h1
    · omega⟩⟩
theorem own_baseR {w : World} {base base' : Nat} {e : TypeId} {size n : Nat} {v : Value} {xs : List Value} (h : w.ownsRow base e size v n xs) (hb : base' ≤ base) : w.ownsRow base' e size v n xs := by
  refine ⟨h.1, ?_⟩
  rcases h.2 with h2 | ⟨g, cap, cur, hv, hg, r⟩
  · exact .inl h2
  · exact .inr ⟨g, cap, cur, hv, by omega, r⟩
theorem RcW.lift {w W z : World} {a : Option Addr} {n cap : Nat} {l : List Nat} (h : RcW W z a n cap l) (hf : Frm [] w W) : RcW w z a n cap l :=
  ⟨h.len, own_baseR h.own hf.size, hf.trans h.frm (by simp) (by simp), fun x hx => Nat.le_trans hf.size (h.new x hx)⟩
end Go.Proofs.Ytahhkffghhgojaa
/- Contracts of pack.digits and pack.value: a number's eight bytes, the greatest first, and back. -/
namespace Go.Proofs.Ytahhkffghhgojaa
open Go.RowKit

/-- What digits hands back: the eight bytes, each by a name. -/
def Eight (n : Nat) (w w' : World) (e : Ending) : Prop :=
  ∃ d0 d1 d2 d3 d4 d5 d6 d7 : Nat, be 8 n = [d0, d1, d2, d3, d4, d5, d6, d7] ∧
    e = .returned (.agg #[.int .u8 d0, .int .u8 d1, .int .u8 d2, .int .u8 d3, .int .u8 d4, .int .u8 d5, .int .u8 d6, .int .u8 d7]) ∧ Below w.heap.size w w'

set_option maxHeartbeats 4000000 in
theorem digits_any (n : Nat) (w : World) (hn : n < 18446744073709551616) :
    Calls Try.prog 64 #[.int .u64 n] w fun e w' => Eight n w w' e := by
  have H8 := Lib.hid (be8 n hn)
  go_enter Try.func64, Try.ntmps64
  go_wp2
  refine wp_loop_rounds 9 ?_
  iterate 9 (rw [rounds_succ]; go_wp2)
  refine bodyPost_ret (results_cell_row (P := Try.prog) rfl _ _ w.heap.size _ _ _ _ rfl (heap_alloc2_old w _ _) Try.underlying106 rfl (by kernel_rfl)) rfl ?_
  exact ⟨_, _, _, _, _, _, _, _, H8.out, rfl, ((Below.refl _ _).alloc (Nat.le_refl _) _).alloc (by simp) _⟩
end Go.Proofs.Ytahhkffghhgojaa
/- Writer: what a Writer reads as (Wr); contract of Writer.put: the bytes are put behind. -/
namespace Go.Proofs.Ytahhkffghhgojaa
open Go.RowKit

/-- The Writer at block p has put the bytes l; its blocks, all from B on, are F. -/
def Wr (w : World) (B p : Nat) (F : List Nat) (l : List Nat) : Prop :=
  (∀ c ∈ l, c < 256) ∧ B ≤ p ∧
  ((l = [] ∧ F = [p] ∧ Whole w p 57 #[.pointer none, .int .i64 0]) ∨
   ∃ r a cap, Whole w p 57 #[.pointer (some ⟨r, 0, none⟩), .int .i64 (l.length : Nat)] ∧ Whole w r 75 #[.slice a l.length cap] ∧
     w.ownsRow B 5 1 (.slice a l.length cap) l.length (l.map u8v) ∧ B ≤ r ∧ F = p :: r :: (Value.slice a l.length cap).ownBlock.toList)

/-- What putting the bytes b leaves. -/
def Put (w w' : World) (B p : Nat) (F : List Nat) (l b : List Nat) : Prop :=
  ∃ F', Wr w' B p F' (l ++ b) ∧ Frm F w w' ∧ ∀ x ∈ F', x ∈ F ∨ w.heap.size ≤ x
def PutEnd (w : World) (B p : Nat) (F : List Nat) (l b : List Nat) (e : Ending) (w' : World) : Prop := e = .returned (.tuple #[]) ∧ Put w w' B p F l b

/-- Behind the append: the two stores that are left of put. -/
theorem put_end {B p r : Nat} {sa : Option Addr} {scap k n : Nat} {l b : List Nat} {w w1 : World} {m : Nat} {a' : Option Addr} {cap' : Nat} (hk : k = l.length) (hn : n = b.length) (h8 : ∀ c ∈ l, c < 256) (h8b : ∀ c ∈ b, c < 256)
    (hp : Whole w p 57 #[.pointer (some ⟨r, 0, none⟩), .int .i64 (k : Nat)]) (hr : Whole w r 75 #[.slice sa k scap])
    (hown : w.ownsRow B 5 1 (.slice sa k scap) k (l.map u8v)) (hBr : B ≤ r) (hBp : B ≤ p)
    (h : App (w.drewN m) w1 B 5 (.slice sa k scap) k n (l.map u8v) b a' cap') :
    Put w ((w1.setCell ⟨r, 0, none⟩ (.slice a' (k + n) cap')).setCell ⟨p, 1, none⟩ (.int .i64 ((k : Int) + n))) B p (p :: r :: (Value.slice sa k scap).ownBlock.toList) l b := by
  subst hk; subst hn
  have hpr : p ≠ r := hp.ne hr (by decide)
  have ho : ∀ g, (Value.slice sa l.length scap).ownBlock = some g → g ≠ p ∧ g ≠ r := fun g hg =>
    ⟨fun e => own_ne hown hp (by decide) (e ▸ hg), fun e => own_ne hown hr (by decide) (e ▸ hg)⟩
  have hf1 : Frm ((Value.slice sa l.length scap).ownBlock.toList) w w1 := ((Frm.refl _ w).drewN m).grown h.grown (fun k hk => .inl (by rw [hk]; simp))
  have hp1 : Whole w1 p _ _ := hf1.whole hp (by
    intro hm
    cases hg : (Value.slice sa l.length scap).ownBlock with
    | none => rw [hg] at hm; simp at hm
    | some g => rw [hg] at hm; simp at hm; exact (ho g hg).1 hm.symm)
  have hr1 : Whole w1 r _ _ := hf1.whole hr (by
    intro hm
    cases hg : (Value.slice sa l.length scap).ownBlock with
    | none => rw [hg] at hm; simp at hm
    | some g => rw [hg] at hm; simp at hm; exact (ho g hg).2 hm.symm)
  have hlen : (l ++ b).length = l.length + b.length := List.length_append
  have hp2 := (hp1.other (p := ⟨r, 0, none⟩) hpr (.slice a' (l.length + b.length) cap')).put 1 (.int .i64 ((l.length : Int) + b.length))
  have hr2 := (hr1.put 0 (.slice a' (l.length + b.length) cap')).other (p := ⟨p, 1, none⟩) (Ne.symm hpr) (.int .i64 ((l.length : Int) + b.length))
  have own1 := h.own
  have op1 := own_ne own1 hp1 (by decide)
  have or1 := own_ne own1 hr1 (by decide)
  have own2 := ownsRow_setCell_other own1 (a := ⟨r, 0, none⟩) or1 (.slice a' (l.length + b.length) cap')
  have own3 := ownsRow_setCell_other own2 (a := ⟨p, 1, none⟩) op1 (.int .i64 ((l.length : Int) + b.length))
  refine ⟨p :: r :: (Value.slice a' (l.length + b.length) cap').ownBlock.toList, ⟨?_, hBp, .inr ⟨r, a', cap', ?_, ?_, ?_, hBr, ?_⟩⟩, ?_, ?_⟩
  · intro c hc
    rcases List.mem_append.1 hc with h | h
    · exact h8 c h
    · exact h8b c h
  · rw [hlen]; simpa using hp2
  · rw [hlen]; simpa using hr2
  · rw [hlen, List.map_append]; exact own3
  · rw [hlen]
  · refine ((hf1.weak (U := p :: r :: (Value.slice sa l.length scap).ownBlock.toList) ?_).setCell (.inl (by simp)) _).setCell (.inl (by simp)) _
    intro x hx; left; simp [hx]
  · intro x hx
    simp only [List.mem_cons] at hx
    rcases hx with rfl | rfl | hx
    · left; simp
    · left; simp
    · rcases h.place with hpl | hpl
      · left; rw [hpl] at hx; simp [hx]
      · right
        rw [hpl] at hx
        simp at hx
        omega

set_option maxHeartbeats 1000000 in
/-- put where the row is there. -/
theorem put_on (B p r : Nat) (sa : Option Addr) (scap : Nat) (l : List Nat) (a : Option Addr) (n cap : Nat) (b : List Nat) (w : World) (h8 : ∀ c ∈ l, c < 256)
    (hp : Whole w p 57 #[.pointer (some ⟨r, 0, none⟩), .int .i64 (l.length : Nat)]) (hr : Whole w r 75 #[.slice sa l.length scap])
    (hown : w.ownsRow B 5 1 (.slice sa l.length scap) l.length (l.map u8v)) (hBr : B ≤ r) (hBp : B ≤ p)
    (hb : Bytes w a b) (hn : n = b.length) (hnil : a = none → cap = 0) (hfit : l.length + n ≤ 140737488355328) :
    Calls Try.prog 65 #[.pointer (some ⟨p, 0, none⟩), .slice a n cap] w (PutEnd w B p (p :: r :: (Value.slice sa l.length scap).ownBlock.toList) l b) := by
  have hnp : p ≠ r := hp.ne hr (by decide)
  have hBw : B ≤ w.heap.size := Nat.le_of_lt (Nat.lt_of_le_of_lt hBp hp.lt)
  obtain ⟨i0, hi, hz0, hz1, hz2⟩ := info_parts Try.info5
  obtain ⟨k, hk⟩ : ∃ k, k = l.length := ⟨_, rfl⟩
  rw [← hk] at hp hr hown hfit ⊢
  have keep : ∀ (m : Nat) (w1 : World), (w.drewN m).grownBy w1 (Value.slice sa k scap).ownBlock → Whole w1 p 57 #[.pointer (some ⟨r, 0, none⟩), .int .i64 (k : Nat)] ∧ Whole w1 r 75 #[.slice sa k scap] := fun m w1 hg =>
    ⟨(hg.block p hp.lt (fun e => own_ne hown hp (by decide) e.symm)).trans hp, (hg.block r hr.lt (fun e => own_ne hown hr (by decide) e.symm)).trans hr⟩
  have KEEP := Lib.hid keep; clear keep
  have c0 := hp.cell 0
  have c1 := hp.cell 1
  have cr := hr.cell 0
  have fp0 := hp.free 0
  have fp1 := hp.free 1
  have fr := hr.free 0
  simp at c0 c1 cr
  have hlt : decide ((k : Int) < (k : Int)) = false := by simp
  have h8b := hb.1
  have FIN := Lib.hid (fun (m : Nat) (w1 : World) (a' : Option Addr) (cap' : Nat) => put_end (B := B) (p := p) (r := r) (sa := sa) (scap := scap) (k := k) (n := n) (l := l) (b := b) (w := w) (w1 := w1) (m := m) (a' := a') (cap' := cap') hk hn h8 h8b hp hr hown hBr hBp)
  clear h8 h8b hp hr
  have HO := Lib.hid hown; clear hown
  have HB := Lib.hid hb; clear hb
  have HN := Lib.hid hn; clear hn
  have HK := Lib.hid hk; clear hk
  go_enter Try.func65, Try.ntmps65
  go_wp2
  go_quiet (fail)
  go_wp2
  go_region_law ((refine step_app rfl (.tmp 43) (.tmp 44) 47 rfl B 5 i0 Try.underlying47 hi hz0 hz1 hz2 (.slice sa k scap) k _ rfl HO.out _ _ _ b rfl ?_ HN.out hnil hfit ?_ ?_; (exact HB.out); (exact hBw); intro a' cap' w1 happ; have HA := Lib.hid happ; obtain ⟨hp1, hr1⟩ := KEEP.out _ _ happ.grown; have q0 := hp1.cell 0; have q1 := hr1.cell 0; have q2 := hr1.free 0; simp at q0 q1; clear happ hp1 hr1))
  all_goals
    obtain ⟨hp1, hr1⟩ := KEEP.out _ _ HA.out.grown
    have hp2 := (hp1.other (p := ⟨r, 0, none⟩) hnp (.slice a' (k + n) cap'))
    have hr2 := (hr1.put 0 (.slice a' (k + n) cap'))
    have s0 := hp2.cell 0
    have s1 := hr2.cell 0
    have s2 := hp2.cell 1
    have s3 := hp2.free 1
    simp at s0 s1 s2
    clear hp1 hr1 hp2 hr2
    go_wp2
    go_end0
    exact ⟨rfl, FIN.out _ _ _ _ HA.out⟩
end Go.Proofs.Ytahhkffghhgojaa
/- Contract of Writer.Done: a row of its own with all that was put. -/
namespace Go.Proofs.Ytahhkffghhgojaa
open Go.RowKit

theorem Frm.undrew {S : List Nat} {w w' : World} (h : Frm S w.drew w') : Frm S w w' := ⟨h.os, h.tape, h.output, h.size, h.block⟩

theorem done_nil (p : Nat) (w : World) (hp : Whole w p 57 #[.pointer none, .int .i64 0]) :
    Calls Try.prog 22 #[.pointer (some ⟨p, 0, none⟩)] w fun e w' => e = .returned (.slice none 0 0) ∧ w = w' := by
  have c0 := hp.cell 0
  simp at c0
  clear hp
  go_enter Try.func22, Try.ntmps22
  go_wp2
  go_ret
  exact ⟨rfl, rfl⟩

set_option maxRecDepth 100000 in
set_option maxHeartbeats 1000000 in
theorem done_on (B p r : Nat) (sa : Option Addr) (scap : Nat) (l : List Nat) (w : World) (h8 : ∀ c ∈ l, c < 256)
    (hp : Whole w p 57 #[.pointer (some ⟨r, 0, none⟩), .int .i64 (l.length : Nat)]) (hr : Whole w r 75 #[.slice sa l.length scap])
    (hown : w.ownsRow B 5 1 (.slice sa l.length scap) l.length (l.map u8v)) (hfit : l.length ≤ 140737488355328) :
    Calls Try.prog 22 #[.pointer (some ⟨p, 0, none⟩)] w fun e w' => Own w w' l e := by
  obtain ⟨hb, hnil⟩ := own_bytes hown h8
  have hcap : l.length ≤ scap := by
    rcases hown.2 with ⟨h, h0⟩ | ⟨g, cap, cur, hv, _, _, hnc, _⟩
    · omega
    · injection hv with _ _ h; omega
  have hcap63 : scap ≤ 9223372036854775807 := by
    rcases hown.2 with ⟨h, h0⟩ | ⟨g, cap, cur, hv, _, _, _, hm, _⟩
    · injection h with _ _ h; omega
    · injection hv with _ _ h; unfold maxLen at hm; omega
  have CL := Lib.hid (fun (w' : World) (hB : Bytes w' sa l) => clone_any sa l.length scap l w' hB rfl hnil hfit)
  obtain ⟨k, hk⟩ : ∃ k, k = l.length := ⟨_, rfl⟩
  rw [← hk] at hp hr hcap CL
  have c0 := hp.cell 0
  have c1 := hp.cell 1
  have cr := hr.cell 0
  simp at c0 c1 cr
  clear hp hr hown hnil hfit
  have HB := Lib.hid hb; clear hb
  have HK := Lib.hid hk; clear hk
  go_enter Try.func22, Try.ntmps22
  go_wp2
  go_still_tail 12, (by kernel_rfl)
  change wpList _ _ _ _ _ w.drew
  go_wp2_with fail
  refine (CL.out w.drew HB.out).mono ?_
  rintro e w' ⟨a', cap', rfl, ho, hf⟩
  have HO := Lib.hid ho; clear ho
  have HF := Lib.hid hf; clear hf
  clear HK
  go_wp2
  go_ret
  exact ⟨a', cap', rfl, HO.out, HF.out.undrew⟩

theorem done_any {w : World} {B p : Nat} {F : List Nat} {l : List Nat} (h : Wr w B p F l) (hfit : l.length ≤ 140737488355328) :
    Calls Try.prog 22 #[.pointer (some ⟨p, 0, none⟩)] w fun e w' => Own w w' l e := by
  obtain ⟨h8, hBp, ⟨rfl, rfl, hp⟩ | ⟨r, a, cap, hp, hr, hown, hBr, rfl⟩⟩ := h
  · exact (done_nil p w hp).mono fun e w' ⟨he, hw⟩ => ⟨none, 0, he, by subst hw; exact World.ownsRow_nil _ _ _ _, by subst hw; exact Frm.refl _ _⟩
  · exact done_on B p r a cap l w h8 hp hr hown hfit
end Go.Proofs.Ytahhkffghhgojaa
