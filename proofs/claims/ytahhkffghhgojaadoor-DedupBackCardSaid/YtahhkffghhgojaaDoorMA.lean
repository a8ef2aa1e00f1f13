/- Contracts and mathematics that the proofs of this seat stand on: RowDef, RowIn, Bytes, Frm, App, PkClone, PkMath, PkDigits, PkPut, PkDone, BytesCut, PkTake, PkValue, PkRNum, PkRWords, PkReadD, PkRead, StrL, Str, PdAwake, Cut, PdRef, PdFault, PdWord, PdValid, PdText, Head, Vals. -/
import Derived.Test.YtahhkffghhgojaaDoorProg
import Derived.WalkKit
import Derived.Lib.Hide
import Derived.OwnWalk
import Derived.Laws.AppendOwn
import Derived.Laws.OwnMore
import Derived.OneCell
import Derived.Deep.Draws
import Derived.Maps.AppendAt
import Derived.Deep.RegionLaw
import Derived.WalkSpells
import Derived.Outline
import Derived.Test.YtahhkffghhgojaaDoorRows
import Derived.Handy
import Derived.Deep.RegionHeld3
import Derived.Deep.QuietTactic
import Derived.BigQuiet
import Derived.BigRegion
import Derived.StillTailTactics
import Derived.WalkLawsBesides
import Derived.Laws.CopyOwn
import Derived.Recover
import Derived.LaidEqlPtr
import Derived.Laws.EntriesVeiled
import Derived.Laws.BytesArg
import Derived.Laws.Slices
import Derived.Shelf.Unicode.DecodeSlow
import Derived.Lib.Endian
import Derived.Lib.EndianBits
import Derived.Laws.BitsAllLaws
import Derived.Deep.LoopGhost
import Derived.Deep.DeepCutAuto
/- A slice of bytes that reads as a list, and small words: plain, of this seat's program alone by its import. -/
namespace Go.Proofs.YtahhkffghhgojaaDoor
open Go.RowKit

theorem same_int {k : IntKind} {a b : Int} (h : a = b) : Value.int k a = Value.int k b := by rw [h]
theorem ret_same {k : IntKind} {a b : Int} (h : a = b) : Ending.returned (.int k a) = .returned (.int k b) := by rw [h]
/-- A slice value at address 'a' reads as the bytes 'l'. -/
def Bytes (w : World) (a : Option Addr) (l : List Nat) : Prop :=
  (∀ c ∈ l, c < 256) ∧ l.length ≤ 9223372036854775807 ∧
  (l = [] ∨ ∃ b off, a = some ⟨b, off, none⟩ ∧ ∀ i, i < l.length → w.cell? ⟨b, off + i, none⟩ = some (.int .u8 (l.getD i 0 : Nat)))

theorem getD_lt {l : List Nat} (h : ∀ c ∈ l, c < 256) (i : Nat) : l.getD i 0 < 256 := by
  by_cases hi : i < l.length
  · have e : l.getD i 0 = l[i] := by simp [hi]
    rw [e]; exact h _ (List.getElem_mem hi)
  · have e : l.getD i 0 = 0 := by simp [Nat.le_of_not_lt hi]
    omega
theorem take_snoc_getD {l : List Nat} {i : Nat} (h : i < l.length) : l.take (i + 1) = l.take i ++ [l.getD i 0] := by
  rw [List.take_succ_eq_append_getElem h]; simp [h]
end Go.Proofs.YtahhkffghhgojaaDoor
/- What a slice of bytes that came in reads as, in plain words of this seat: a list of natural numbers below 256. Plain lemmas, no condition. -/
namespace Go.Proofs.YtahhkffghhgojaaDoor
open Go.RowKit

/-- A slice of integers that came in: nil, or a row of cells. -/
def RowIn (k : IntKind) (w : World) (a : Option Addr) (len cap : Nat) (zs : List Int) : Prop :=
  (a = none ∧ len = 0 ∧ cap = 0 ∧ zs = []) ∨
  ∃ x, a = some x ∧ len ≤ cap ∧ cap ≤ maxLen ∧ zs.length = cap ∧ (∀ i, i < zs.length → w.cell? (x.add i) = some (.int k (zs.getD i 0))) ∧ ∀ n ∈ zs, (Lit.int k n).wf = true

theorem wf_bounds_u8 {n : Int} (h : (Lit.int .u8 n).wf = true) : 0 ≤ n ∧ n ≤ 255 := by
  simp [Lit.wf, IntKind.min, IntKind.max, IntKind.signed, IntKind.bits] at h
  omega
theorem bytes_of_row {w : World} {a : Option Addr} {len cap : Nat} {zs : List Int} (h : RowIn .u8 w a len cap zs) :
    ∃ l : List Nat, len = l.length ∧ Bytes w a l := by
  rcases h with ⟨rfl, rfl, rfl, rfl⟩ | ⟨x, rfl, hl, hm, hz, hcell, hwz⟩
  · exact ⟨[], rfl, by simp, by simp, .inl rfl⟩
  · unfold maxLen at hm
    have hlen : ((zs.take len).map Int.toNat).length = len := by simp; omega
    refine ⟨(zs.take len).map Int.toNat, hlen.symm, ?_, by omega, ?_⟩
    · intro c hc
      simp only [List.mem_map] at hc
      obtain ⟨n, hn, rfl⟩ := hc
      have := wf_bounds_u8 (hwz n (List.mem_of_mem_take hn))
      omega
    · by_cases h0 : len = 0
      · left; subst h0; simp
      · right
        obtain ⟨b, off, spot⟩ := x
        have hc := hcell 0 (by omega)
        have hspot : spot = none := by simpa [Addr.add] using World.cell?_spot hc
        subst hspot
        refine ⟨b, off, rfl, ?_⟩
        intro i hi
        have hi' : i < len := by omega
        have e := hcell i (by omega)
        have hw := wf_bounds_u8 (hwz (zs.getD i 0) (by have : i < zs.length := by omega
                                                       simp [this]))
        have : (((zs.take len).map Int.toNat).getD i 0 : Int) = zs.getD i 0 := by
          have h1 : i < zs.length := by omega
          simp [h1, hi'] at hw ⊢
          omega
        rw [this]
        have ha : (⟨b, off, none⟩ : Addr).add i = ⟨b, off + i, none⟩ := by
          unfold Addr.add
          by_cases hi0 : i = 0
          · subst hi0; simp
          · simp [hi0]
        rw [ha] at e; exact e
theorem row_nil {k : IntKind} {w : World} {a : Option Addr} {len cap : Nat} {zs : List Int} (h : RowIn k w a len cap zs) : a = none → cap = 0 := by
  intro ha
  rcases h with ⟨_, _, h, _⟩ | ⟨x, h, _⟩
  · exact h
  · rw [ha] at h; cases h
theorem row_cap {k : IntKind} {w : World} {a : Option Addr} {len cap : Nat} {zs : List Int} (h : RowIn k w a len cap zs) : len ≤ cap := by
  rcases h with ⟨_, h1, h2, _⟩ | ⟨x, _, h, _⟩ <;> omega
theorem Bytes.later {w w' : World} {a : Option Addr} {l : List Nat} (h : Bytes w a l) (hb : Below w.heap.size w w') : Bytes w' a l := by
  obtain ⟨h1, h2, h3⟩ := h
  refine ⟨h1, h2, ?_⟩
  rcases h3 with h | ⟨b, off, ha, hc⟩
  · exact .inl h
  · refine .inr ⟨b, off, ha, fun i hi => ?_⟩
    have e := hc i hi
    have hlt : b < w.heap.size := by
      rcases Nat.lt_or_ge b w.heap.size with h' | h'
      · exact h'
      · simp [World.cell?, Array.getElem?_eq_none h'] at e
    rw [← e]
    exact hb.cell (p := ⟨b, off + i, none⟩) hlt
end Go.Proofs.YtahhkffghhgojaaDoor
/- Slices of bytes that the call itself makes: appending whatever slice of bytes (nil or not), and what such a slice reads as. Plain laws over any program with the element type's row at hand. -/
namespace Go.Proofs.YtahhkffghhgojaaDoor
open Go.RowKit

def u8v (c : Nat) : Value := .int .u8 (c : Int)
theorem u8v_one (l : List Nat) : ∀ u ∈ l.map u8v, u.oneCell' = true := by
  intro u hu
  obtain ⟨c, _, rfl⟩ := List.mem_map.1 hu
  rfl
theorem addr_add (b off i : Nat) : (⟨b, off, none⟩ : Addr).add i = ⟨b, off + i, none⟩ := by
  unfold Addr.add
  by_cases hi0 : i = 0
  · subst hi0; simp
  · simp [hi0]
theorem getD_map_u8v {l : List Nat} {i : Nat} (h : i < l.length) : (l.map u8v)[i]? = some (u8v (l.getD i 0)) := by
  simp [h]
theorem Bytes.news {w : World} {b off : Nat} {l : List Nat} (h : ∀ i, i < l.length → w.cell? ⟨b, off + i, none⟩ = some (.int .u8 (l.getD i 0 : Nat))) :
    ∀ j u, (l.map u8v)[j]? = some u → w.cell? ((⟨b, off, none⟩ : Addr).add j) = some u := by
  intro j u hu
  have hj : j < l.length := by
    rcases Nat.lt_or_ge j l.length with h' | h'
    · exact h'
    · rw [List.getElem?_eq_none (by simpa using h')] at hu; cases hu
  rw [getD_map_u8v hj] at hu
  cases hu
  rw [addr_add]; exact h j hj

/-- What a slice of the call's own reads as. -/
theorem bytes_of_own {w : World} {base e : Nat} {a : Option Addr} {n cap : Nat} {l : List Nat} (h : w.ownsRow base e 1 (.slice a n cap) n (l.map u8v)) (h8 : ∀ c ∈ l, c < 256) :
    n = l.length ∧ Bytes w a l ∧ (a = none → cap = 0) := by
  have hn : n = l.length := by have := h.1; simpa using this.symm
  refine ⟨hn, ⟨h8, ?_, ?_⟩, ?_⟩
  · rcases h.2 with ⟨_, h0⟩ | ⟨g, cap', cur, _, _, _, hnc, hcm, _⟩
    · omega
    · unfold maxLen at hcm; omega
  · rcases h.2 with ⟨hv, h0⟩ | ⟨g, cap', cur, hv, hb, hg, hnc, hcm, hcs, ht⟩
    · left; exact List.eq_nil_of_length_eq_zero (by omega)
    · right
      simp only [Value.slice.injEq] at hv
      obtain ⟨rfl, _, rfl⟩ := hv
      refine ⟨g, 0, rfl, fun i hi => ?_⟩
      have := h.cellAt i (by omega)
      rw [Nat.zero_add, this, getD_map_u8v hi]; rfl
  · intro ha
    rcases h.2 with ⟨hv, h0⟩ | ⟨g, cap', cur, hv, _⟩
    · simp only [Value.slice.injEq] at hv; exact hv.2.2
    · subst ha; simp at hv

section
variable {P : Program} {w : World}

theorem run_append_bytes (base : Nat) (t ty e : TypeId) (i : TypeInfo) (ht : P.underlying t = some (.slice e)) (hi : P.info? e = some i) (hz : i.zero = some (.int .u8 0))
    (hsize : i.size = 1) (hby : i.bytes = 1) (v : Value) (n : Nat) (xs : List Value) (hown : w.ownsRow base e 1 v n xs)
    (ad : Option Addr) (m c : Nat) (l : List Nat) (hB : Bytes w ad l) (hm : m = l.length) (hnil : ad = none → c = 0)
    (hfit : n + m ≤ 140737488355328) (hbase : base ≤ w.heap.size) :
    ∃ a' cap' w', (Builtin.append_ #[t, t] ty #[v, .slice ad m c]).run P w = .ok (.slice a' (n + m) cap') w' ∧ w'.ownsRow base e 1 (.slice a' (n + m) cap') (n + m) (xs ++ l.map u8v) ∧ w.grownBy w' v.ownBlock := by
  obtain ⟨h8, hl, hc⟩ := hB
  have shape : ∀ (v' : Value) (w' : World) (k : Nat) (ys : List Value), w'.ownsRow base e 1 v' k ys → ∃ a' cap', v' = .slice a' k cap' := by
    intro v' w' k ys h
    rcases h.2 with ⟨hv, h0⟩ | ⟨g, cap', cur, hv, _⟩
    · exact ⟨none, 0, by rw [hv, h0]⟩
    · exact ⟨_, cap', hv⟩
  cases ad with
  | none =>
    have hc0 := hnil rfl
    subst hc0
    have hl0 : l = [] := by
      rcases hc with h | ⟨b, off, h, _⟩
      · exact h
      · cases h
    subst hl0
    have hm0 : m = 0 := by simpa using hm
    subst hm0
    obtain ⟨a', cap', hv⟩ := shape v w n xs hown
    subst hv
    refine ⟨a', cap', w, run_append_owned_none (P := P) (w := w) base t ty e i 1 ht hi _ n xs hown, by simpa using hown, World.grownBy.refl _ _⟩
  | some x =>
    have hnews : ∀ j u, (l.map u8v)[j]? = some u → w.cell? (x.add j) = some u := by
      rcases hc with h | ⟨b, off, h, hh⟩
      · subst h; intro j u hu; simp at hu
      · cases h; exact Bytes.news hh
    obtain ⟨v', w', hr, ho, hg, _⟩ := run_append_own (P := P) w base t ty e i (.int .u8 0) 1 1 ht hi hz hsize hby rfl (by decide) v n xs hown x m c (l.map u8v) (by simp [hm]) hnews (u8v_one l) (by unfold maxLen; omega) (by omega) hbase
    obtain ⟨a', cap', hv⟩ := shape v' w' (n + m) _ ho
    subst hv
    exact ⟨a', cap', w', hr, ho, hg⟩

theorem wpList_append_bytes {ops : Array Oper} {rest : List Oper} {o : Oper} {a : Act} {Q : Exit → Act → World → Prop} (hgd : o.guard = none) (s x : Operand) (t : TypeId)
    (ho : o.op = .call { callee := .builtin .append, args := #[s, x], argTypes := #[t, t] })
    (base : Nat) (e : TypeId) (i : TypeInfo) (ht : P.underlying t = some (.slice e)) (hi : P.info? e = some i) (hz : i.zero = some (.int .u8 0))
    (hsize : i.size = 1) (hby : i.bytes = 1) (v : Value) (n : Nat) (xs : List Value) (hs : a.eval s = v) (hown : w.ownsRow base e 1 v n xs)
    (ad : Option Addr) (m c : Nat) (l : List Nat) (hx : a.eval x = .slice ad m c) (hB : Bytes w ad l) (hm : m = l.length) (hnil : ad = none → c = 0)
    (hfit : n + m ≤ 140737488355328) (hbase : base ≤ w.heap.size)
    (h : ∀ a' cap' w', w'.ownsRow base e 1 (.slice a' (n + m) cap') (n + m) (xs ++ l.map u8v) → w.grownBy w' v.ownBlock → wpList P ops Q rest (a.put o.dst (.slice a' (n + m) cap')) w') : wpList P ops Q (o :: rest) a w := by
  refine wpList_plain hgd fun K hK => ?_
  obtain ⟨a', cap', w', hr, h2, h3⟩ := run_append_bytes (P := P) base t o.type e i ht hi hz hsize hby v n xs hown ad m c l hB hm hnil hfit hbase
  unfold Oper.wp execOp
  simp only [ho, resolve, invoke, builtin, Sem.run_bind, Sem.run_pure, Result.andThen_ok, List.map_toArray, List.map_cons, List.map_nil, hs, hx, hr]
  exact hK _ _ (h a' cap' w' h2 h3)
end
end Go.Proofs.YtahhkffghhgojaaDoor
/- Plain words on memory: which blocks a call may have turned (Frm), a block known whole (Whole), what stays as it was. They speak of no program. -/
namespace Go.Proofs.YtahhkffghhgojaaDoor
open Go.RowKit

/-- From w to w' only the blocks in S, and new ones, have turned. -/
structure Frm (S : List Nat) (w w' : World) : Prop where
  os : w'.os = w.os
  tape : w'.tape = w.tape
  output : w'.output = w.output
  size : w.heap.size ≤ w'.heap.size
  block : ∀ k, k < w.heap.size → k ∉ S → w'.heap[k]? = w.heap[k]?

theorem Frm.refl (S : List Nat) (w : World) : Frm S w w := ⟨rfl, rfl, rfl, Nat.le_refl _, fun _ _ _ => rfl⟩
theorem Frm.trans {S T U : List Nat} {a b c : World} (h : Frm S a b) (k : Frm T b c) (hS : ∀ x ∈ S, x ∈ U) (hT : ∀ x ∈ T, x ∈ U ∨ a.heap.size ≤ x) : Frm U a c :=
  ⟨k.os.trans h.os, k.tape.trans h.tape, k.output.trans h.output, Nat.le_trans h.size k.size, fun i hi hn =>
    (k.block i (Nat.lt_of_lt_of_le hi h.size) (fun hm => by rcases hT i hm with h1 | h1; exact hn h1; omega)).trans (h.block i hi (fun hm => hn (hS i hm)))⟩
theorem Frm.weak {S U : List Nat} {a b : World} (h : Frm S a b) (hS : ∀ x ∈ S, x ∈ U ∨ a.heap.size ≤ x) : Frm U a b :=
  ⟨h.os, h.tape, h.output, h.size, fun i hi hn => h.block i hi (fun hm => by rcases hS i hm with h1 | h1; exact hn h1; omega)⟩
theorem Frm.drew {S : List Nat} {a w : World} (h : Frm S a w) : Frm S a w.drew := ⟨h.os, h.tape, h.output, h.size, h.block⟩
theorem Frm.drewN {S : List Nat} {a w : World} (h : Frm S a w) (n : Nat) : Frm S a (w.drewN n) := ⟨h.os, h.tape, h.output, h.size, h.block⟩
theorem Frm.alloc {S : List Nat} {a w : World} (h : Frm S a w) (o : Obj) : Frm S a (w.alloc o) :=
  ⟨h.os, h.tape, h.output, Nat.le_trans h.size (by simp), fun i hi hn => (Below.heap_alloc w o i (Nat.lt_of_lt_of_le hi h.size)).trans (h.block i hi hn)⟩
theorem Frm.setCell {S : List Nat} {a w : World} (h : Frm S a w) {p : Addr} (hp : p.block ∈ S ∨ a.heap.size ≤ p.block) (u : Value) : Frm S a (w.setCell p u) :=
  ⟨h.os, h.tape, h.output, by simpa [World.setCell] using h.size, fun i hi hn => (Below.heap_setCell w p u i (by
    rintro rfl
    rcases hp with hp | hp
    · exact hn hp
    · omega)).trans (h.block i hi hn)⟩
theorem Frm.grown {S : List Nat} {a w w' : World} {row : Option Nat} (h : Frm S a w) (hg : w.grownBy w' row) (hr : ∀ k, row = some k → k ∈ S ∨ a.heap.size ≤ k) : Frm S a w' :=
  ⟨hg.os.trans h.os, hg.tape.trans h.tape, hg.output.trans h.output, Nat.le_trans h.size hg.size, fun i hi hn =>
    (hg.block i (Nat.lt_of_lt_of_le hi h.size) (fun e => by rcases hr i e.symm with h1 | h1; exact hn h1; omega)).trans (h.block i hi hn)⟩
theorem Frm.below {S : List Nat} {w w' : World} {B : Nat} (h : Frm S w w') (hS : ∀ x ∈ S, B ≤ x) (hB : B ≤ w.heap.size) : Below B w w' :=
  ⟨h.os, h.tape, h.output, h.size, fun k hk => h.block k (by omega) (fun hm => by have := hS k hm; omega)⟩
theorem Frm.ofBelow {w w' : World} (h : Below w.heap.size w w') : Frm [] w w' := ⟨h.os, h.tape, h.output, h.size, fun k hk _ => h.block k hk⟩
theorem Frm.cell {S : List Nat} {w w' : World} (h : Frm S w w') {p : Addr} (hp : p.block < w.heap.size) (hn : p.block ∉ S) : w'.cell? p = w.cell? p := World.cell?_of_block (w := w) (h.block p.block hp hn)
theorem Frm.frozen {S : List Nat} {w w' : World} (h : Frm S w w') {p : Addr} (hp : p.block < w.heap.size) (hn : p.block ∉ S) : w'.frozen? p = w.frozen? p := World.frozen?_of_block (w := w) (h.block p.block hp hn)

theorem Frm.own {S : List Nat} {w w' : World} (hf : Frm S w w') {base : Nat} {e : TypeId} {size : Nat} {v : Value} {n : Nat} {xs : List Value} (h : w.ownsRow base e size v n xs)
    (hn : ∀ g, v.ownBlock = some g → g ∉ S) : w'.ownsRow base e size v n xs := by
  obtain ⟨h1, h2⟩ := h
  refine ⟨h1, ?_⟩
  rcases h2 with h2 | ⟨g, cap, cur, rfl, hg, hh, r⟩
  · exact Or.inl h2
  · exact Or.inr ⟨g, cap, cur, rfl, hg, by rw [hf.block g (lt_of_block hh) (hn g rfl)]; exact hh, r⟩

theorem Frm.bytes {S : List Nat} {w w' : World} (hf : Frm S w w') {a : Option Addr} {l : List Nat} (h : Bytes w a l) (hn : ∀ x, a = some x → x.block ∉ S) : Bytes w' a l := by
  obtain ⟨h1, h2, h3⟩ := h
  refine ⟨h1, h2, ?_⟩
  rcases h3 with h | ⟨b, off, ha, hc⟩
  · exact .inl h
  · refine .inr ⟨b, off, ha, fun i hi => ?_⟩
    have e := hc i hi
    have hlt : b < w.heap.size := block_lt_of_cell (a := ⟨b, off + i, none⟩) e
    rw [← e]
    exact hf.cell (p := ⟨b, off + i, none⟩) hlt (hn ⟨b, off, none⟩ ha)

theorem bytes_lt {w : World} {a : Option Addr} {l : List Nat} (h : Bytes w a l) (hne : l ≠ []) : ∀ x, a = some x → x.block < w.heap.size := by
  intro x hx
  rcases h.2.2 with h0 | ⟨b, off, ha, hc⟩
  · exact absurd h0 hne
  · rw [ha] at hx
    cases hx
    exact block_lt_of_cell (a := ⟨b, off + 0, none⟩) (hc 0 (by cases l with | nil => exact absurd rfl hne | cons _ _ => simp))
theorem Frm.bytes' {S : List Nat} {w w' : World} (hf : Frm S w w') {a : Option Addr} {l : List Nat} (h : Bytes w a l) (hn : l ≠ [] → ∀ x, a = some x → x.block ∉ S) : Bytes w' a l := by
  by_cases hne : l = []
  · subst hne; exact ⟨by simp, by simp, .inl rfl⟩
  · exact hf.bytes h (hn hne)

/-- Block g is just these cells, none of them frozen. -/
def Whole (w : World) (g : Nat) (t : TypeId) (cs : Array Value) : Prop := w.heap[g]? = some (.cells cs t (0, 0))
section
variable {w w' : World} {g : Nat} {t : TypeId} {cs : Array Value}
theorem Whole.lt (h : Whole w g t cs) : g < w.heap.size := lt_of_block h
theorem Whole.cell (h : Whole w g t cs) (i : Nat) : w.cell? ⟨g, i, none⟩ = cs[i]? := cell_of_row w g i cs t (0, 0) h
theorem Whole.free (h : Whole w g t cs) (i : Nat) : w.frozen? ⟨g, i, none⟩ = false := frozen_of_row w g i cs t h
theorem Whole.made (w : World) (t : TypeId) (cs : Array Value) : Whole (w.alloc (.cells cs t)) w.heap.size t cs := heap_alloc_new w _
theorem Whole.drew (h : Whole w g t cs) : Whole w.drew g t cs := h
theorem Whole.alloc (h : Whole w g t cs) (o : Obj) : Whole (w.alloc o) g t cs := (Below.heap_alloc w o g h.lt).trans h
theorem Whole.put (h : Whole w g t cs) (i : Nat) (u : Value) : Whole (w.setCell ⟨g, i, none⟩ u) g t (cs.setIfInBounds i u) := heap_setCell_same w g i cs t u h
theorem Whole.other (h : Whole w g t cs) {p : Addr} (hp : g ≠ p.block) (u : Value) : Whole (w.setCell p u) g t cs := (heap_setCell_other w p g u hp).trans h
theorem Frm.whole {S : List Nat} (hf : Frm S w w') (h : Whole w g t cs) (hn : g ∉ S) : Whole w' g t cs := (hf.block g h.lt hn).trans h
theorem Whole.ne {g' : Nat} {t' : TypeId} {cs' : Array Value} (h : Whole w g t cs) (h' : Whole w g' t' cs') (hne : t ≠ t') : g ≠ g' := by
  rintro rfl
  unfold Whole at h h'
  rw [h] at h'
  injection h' with h'
  injection h' with _ ht
  exact hne ht
theorem own_ne {base : Nat} {e : TypeId} {size n : Nat} {v : Value} {xs : List Value} (h : w.ownsRow base e size v n xs) (hg : Whole w g t cs) (hne : e ≠ t) : v.ownBlock ≠ some g := by
  rcases h.2 with ⟨rfl, _⟩ | ⟨g', cap, cur, rfl, _, hh, _⟩
  · simp [Value.ownBlock]
  · intro he
    have : g' = g := by simpa [Value.ownBlock] using he
    subst this
    exact Whole.ne (t := e) hh hg hne rfl
end
end Go.Proofs.YtahhkffghhgojaaDoor
/- Appending whatever slice of bytes (nil or not) to a row of the call's own, with where the new row lies; in a plain region (wpList_app) and in one that draws its order (step_app). They speak of no program. -/
namespace Go.Proofs.YtahhkffghhgojaaDoor
open Go.RowKit

section
variable {P : Program} {w : World}
/-- What appending the bytes l to an owned value leaves. -/
structure App (w w' : World) (base : Nat) (e : TypeId) (v : Value) (n m : Nat) (xs : List Value) (l : List Nat) (a' : Option Addr) (cap' : Nat) : Prop where
  own : w'.ownsRow base e 1 (.slice a' (n + m) cap') (n + m) (xs ++ l.map u8v)
  grown : w.grownBy w' v.ownBlock
  place : (Value.slice a' (n + m) cap').ownBlock = v.ownBlock ∨ (Value.slice a' (n + m) cap').ownBlock = some w.heap.size

theorem run_app (base : Nat) (t ty e : TypeId) (i : TypeInfo) (ht : P.underlying t = some (.slice e)) (hi : P.info? e = some i) (hz : i.zero = some (.int .u8 0))
    (hsize : i.size = 1) (hby : i.bytes = 1) (v : Value) (n : Nat) (xs : List Value) (hown : w.ownsRow base e 1 v n xs)
    (ad : Option Addr) (m c : Nat) (l : List Nat) (hB : Bytes w ad l) (hm : m = l.length) (hnil : ad = none → c = 0)
    (hfit : n + m ≤ 140737488355328) (hbase : base ≤ w.heap.size) :
    ∃ a' cap' w', (Builtin.append_ #[t, t] ty #[v, .slice ad m c]).run P w = .ok (.slice a' (n + m) cap') w' ∧ App w w' base e v n m xs l a' cap' := by
  obtain ⟨h8, hl, hc⟩ := hB
  have shape : ∀ (v' : Value) (w' : World) (k : Nat) (ys : List Value), w'.ownsRow base e 1 v' k ys → ∃ a' cap', v' = .slice a' k cap' := by
    intro v' w' k ys h
    rcases h.2 with ⟨hv, h0⟩ | ⟨g, cap', cur, hv, _⟩
    · exact ⟨none, 0, by rw [hv, h0]⟩
    · exact ⟨_, cap', hv⟩
  cases ad with
  | none =>
    have hc0 := hnil rfl
    subst hc0
    have hl0 : l = [] := by
      rcases hc with h | ⟨b, off, h, _⟩
      · exact h
      · cases h
    subst hl0
    have hm0 : m = 0 := by simpa using hm
    subst hm0
    obtain ⟨a', cap', hv⟩ := shape v w n xs hown
    subst hv
    exact ⟨a', cap', w, run_append_owned_none (P := P) (w := w) base t ty e i 1 ht hi _ n xs hown, by simpa using hown, World.grownBy.refl _ _, .inl rfl⟩
  | some x =>
    have hnews : ∀ j u, (l.map u8v)[j]? = some u → w.cell? (x.add j) = some u := by
      rcases hc with h | ⟨b, off, h, hh⟩
      · subst h; intro j u hu; simp at hu
      · cases h; exact Bytes.news hh
    obtain ⟨v', w', hr, ho, hg, _, hpl⟩ := run_append_own_at (P := P) w base t ty e i (.int .u8 0) 1 1 ht hi hz hsize hby rfl (by decide) v n xs hown x m c (l.map u8v) (by simp [hm]) hnews (u8v_one l) (by unfold maxLen; omega) (by omega) hbase
    obtain ⟨a', cap', hv⟩ := shape v' w' (n + m) _ ho
    subst hv
    exact ⟨a', cap', w', hr, ho, hg, hpl⟩

theorem wpList_app {ops : Array Oper} {rest : List Oper} {o : Oper} {a : Act} {Q : Exit → Act → World → Prop} (hgd : o.guard = none) (s x : Operand) (t : TypeId)
    (ho : o.op = .call { callee := .builtin .append, args := #[s, x], argTypes := #[t, t] })
    (base : Nat) (e : TypeId) (i : TypeInfo) (ht : P.underlying t = some (.slice e)) (hi : P.info? e = some i) (hz : i.zero = some (.int .u8 0))
    (hsize : i.size = 1) (hby : i.bytes = 1) (v : Value) (n : Nat) (xs : List Value) (hs : a.eval s = v) (hown : w.ownsRow base e 1 v n xs)
    (ad : Option Addr) (m c : Nat) (l : List Nat) (hx : a.eval x = .slice ad m c) (hB : Bytes w ad l) (hm : m = l.length) (hnil : ad = none → c = 0)
    (hfit : n + m ≤ 140737488355328) (hbase : base ≤ w.heap.size)
    (h : ∀ a' cap' w', App w w' base e v n m xs l a' cap' → wpList P ops Q rest (a.put o.dst (.slice a' (n + m) cap')) w') : wpList P ops Q (o :: rest) a w := by
  refine wpList_plain hgd fun K hK => ?_
  obtain ⟨a', cap', w', hr, h2⟩ := run_app (P := P) base t o.type e i ht hi hz hsize hby v n xs hown ad m c l hB hm hnil hfit hbase
  unfold Oper.wp execOp
  simp only [ho, resolve, invoke, builtin, Sem.run_bind, Sem.run_pure, Result.andThen_ok, List.map_toArray, List.map_cons, List.map_nil, hs, hx, hr]
  exact hK _ _ (h a' cap' w' h2)

theorem step_app {ops : Array Oper} {o : Oper} {a : Act} {K : Act → World → Prop} {Q : Exit → Act → World → Prop} {E : Prop} (hgd : o.guard = none) (s x : Operand) (t : TypeId)
    (ho : o.op = .call { callee := .builtin .append, args := #[s, x], argTypes := #[t, t] })
    (base : Nat) (e : TypeId) (i : TypeInfo) (ht : P.underlying t = some (.slice e)) (hi : P.info? e = some i) (hz : i.zero = some (.int .u8 0))
    (hsize : i.size = 1) (hby : i.bytes = 1) (v : Value) (n : Nat) (xs : List Value) (hs : a.eval s = v) (hown : w.ownsRow base e 1 v n xs)
    (ad : Option Addr) (m c : Nat) (l : List Nat) (hx : a.eval x = .slice ad m c) (hB : Bytes w ad l) (hm : m = l.length) (hnil : ad = none → c = 0)
    (hfit : n + m ≤ 140737488355328) (hbase : base ≤ w.heap.size)
    (h : ∀ a' cap' w', App w w' base e v n m xs l a' cap' → K (a.put o.dst (.slice a' (n + m) cap')) w') :
    if Region.wanted o (yielded ops a.tmps) = true then Oper.wp P o a w K Q else E := by
  have hw : Region.wanted o (yielded ops a.tmps) = true := by simp [Region.wanted, hgd]
  rw [if_pos hw]
  obtain ⟨a', cap', w', hr, h2⟩ := run_app (P := P) base t o.type e i ht hi hz hsize hby v n xs hown ad m c l hB hm hnil hfit hbase
  unfold Oper.wp execOp
  simp only [ho, resolve, invoke, builtin, Sem.run_bind, Sem.run_pure, Result.andThen_ok, List.map_toArray, List.map_cons, List.map_nil, hs, hx, hr]
  exact h a' cap' w' h2
end
end Go.Proofs.YtahhkffghhgojaaDoor
/- Contract of bytes.Clone: for every slice of bytes, nil or not: a row of the call's own with the same bytes. -/
namespace Go.Proofs.YtahhkffghhgojaaDoor
open Go.RowKit

theorem Tryd.info5 : (Tryd.prog.info? 5).map (fun i => (i.zero, i.size, i.bytes)) = some (some (.int .u8 0), 1, 1) := by kernel_rfl

/-- What a call hands back that makes bytes of its own: a slice value, the row that it owns from base on. -/
def Own (w w' : World) (l : List Nat) (e : Ending) : Prop :=
  ∃ a' cap', e = .returned (.slice a' l.length cap') ∧ w'.ownsRow w.heap.size 5 1 (.slice a' l.length cap') l.length (l.map u8v) ∧ Frm [] w w'

theorem clone_any (a : Option Addr) (n cap : Nat) (l : List Nat) (w : World) (hl : Bytes w a l) (hn : n = l.length) (hnil : a = none → cap = 0) (hfit : n ≤ 140737488355328) :
    Calls Tryd.prog 31 #[.slice a n cap] w fun e w' => Own w w' l e := by
  have hq := fun (w : World) (a : Option Addr) (n c n' c' : Nat) => Lib.run_eql_slice_nil (P := Tryd.prog) w 22 5 a n c n' c' Tryd.underlying22
  cases a with
  | none =>
    have h0 : l = [] := by
      rcases hl.2.2 with h | ⟨b, off, h, _⟩
      · exact h
      · cases h
    subst h0
    obtain rfl := hnil rfl
    subst hn
    go_enter Tryd.func31, Tryd.ntmps31
    go_wp2
    go_ret
    exact ⟨none, 0, rfl, World.ownsRow_nil _ _ _ _, Frm.refl _ _⟩
  | some x =>
    obtain ⟨i0, hi, hz0, hz1, hz2⟩ := info_parts Tryd.info5
    have HL := Lib.hid hl; clear hl
    have HN := Lib.hid hn; clear hn
    have HI := Lib.hid hi; clear hi
    have HZ0 := Lib.hid hz0; clear hz0
    have HZ1 := Lib.hid hz1; clear hz1
    have HZ2 := Lib.hid hz2; clear hz2
    clear hnil
    go_enter Tryd.func31, Tryd.ntmps31
    go_wp2_with (at_builtin; refine wpList_append_bytes rfl (.tmp 5) (.tmp 6) 22 rfl w.heap.size 5 i0 Tryd.underlying22 HI.out HZ0.out HZ1.out HZ2.out _ 0 [] rfl ?own1 _ _ _ l rfl ?b1 HN.out ?nil1 ?fit1 ?base1 ?_)
    case own1 => exact World.ownsRow_lit w #[] 0 (Nat.le_refl _) (by unfold maxLen; omega) rfl
    case b1 => exact ((Frm.refl [] w).alloc _).bytes HL.out (by simp)
    case nil1 => intro h; cases h
    case fit1 => omega
    case base1 => simp
    intro a2 cap2 w2 hown2 hg2
    have hf2 : Frm [] w w2 := ((Frm.refl [] w).alloc _).grown hg2 (fun k hk => .inr (by simp [Value.ownBlock] at hk; omega))
    clear hg2
    go_wp2
    go_ret
    have h := HN.out
    subst h
    exact ⟨a2, cap2, rfl, hown2, hf2⟩
/-- What comes of a row of the call's own. -/
theorem own_bytes {w' : World} {base : Nat} {a : Option Addr} {cap : Nat} {l : List Nat} (h : w'.ownsRow base 5 1 (.slice a l.length cap) l.length (l.map u8v)) (h8 : ∀ c ∈ l, c < 256) :
    Bytes w' a l ∧ (a = none → cap = 0) := ⟨(bytes_of_own h h8).2.1, (bytes_of_own h h8).2.2⟩
end Go.Proofs.YtahhkffghhgojaaDoor
/- Plain arithmetic: a number's bytes, the greatest first (be), and back (val). It speaks of no program. -/
namespace Go.Proofs.YtahhkffghhgojaaDoor

def be : Nat → Nat → List Nat
  | 0, _ => []
  | k + 1, n => be k (n / 256) ++ [n % 256]
def val (l : List Nat) : Nat := l.foldl (fun x c => x * 256 + c) 0

theorem be_length (k n : Nat) : (be k n).length = k := by
  induction k generalizing n with
  | zero => rfl
  | succ k ih => simp [be, ih]
theorem be_lt (k n : Nat) : ∀ c ∈ be k n, c < 256 := by
  induction k generalizing n with
  | zero => simp [be]
  | succ k ih =>
    intro c hc
    rcases List.mem_append.1 hc with h | h
    · exact ih _ c h
    · simp at h; omega
theorem val_snoc (l : List Nat) (c : Nat) : val (l ++ [c]) = val l * 256 + c := by simp [val]
theorem val_be (k n : Nat) (h : n < 256 ^ k) : val (be k n) = n := by
  induction k generalizing n with
  | zero => simp at h; subst h; rfl
  | succ k ih =>
    rw [be, val_snoc, ih (n / 256) (by rw [Nat.pow_succ] at h; omega)]; omega
theorem snoc_ind {p : List Nat → Prop} (h0 : p []) (h1 : ∀ l c, p l → p (l ++ [c])) (l : List Nat) : p l := by
  have H : ∀ m : List Nat, p m.reverse := by
    intro m
    induction m with
    | nil => exact h0
    | cons c m ih => rw [List.reverse_cons]; exact h1 _ _ ih
  have := H l.reverse
  rwa [List.reverse_reverse] at this
theorem val_lt (l : List Nat) (h : ∀ c ∈ l, c < 256) : val l < 256 ^ l.length := by
  revert h
  refine snoc_ind (p := fun l => (∀ c ∈ l, c < 256) → val l < 256 ^ l.length) ?_ ?_ l
  · intro _; simp [val]
  · intro l c ih h
    have h1 := ih (fun x hx => h x (by simp [hx]))
    have h2 := h c (by simp)
    rw [val_snoc, List.length_append, List.length_singleton, Nat.pow_succ]; omega
theorem val_zeros (m : Nat) (l : List Nat) : val (List.replicate m 0 ++ l) = val l := by
  induction m with
  | zero => rfl
  | succ m ih =>
    rw [← ih]
    simp [val, List.replicate_succ]
/-- The eight bytes of a number, each by itself. -/
theorem be8 (n : Nat) (h : n < 18446744073709551616) : be 8 n = [n / 72057594037927936, n / 281474976710656 % 256, n / 1099511627776 % 256, n / 4294967296 % 256, n / 16777216 % 256, n / 65536 % 256, n / 256 % 256, n % 256] := by
  simp only [be, List.nil_append, List.cons_append, List.cons.injEq, and_true]
  repeat' apply And.intro
  all_goals omega
theorem be_drop (k n : Nat) (hk : k ≤ 8) : (be 8 n).drop (8 - k) = be k n := by
  have H : ∀ (m k n : Nat), (be (m + k) n).drop m = be k n := by
    intro m k
    induction k with
    | zero => intro n; simp [be, be_length]
    | succ k ih =>
      intro n
      show (be (m + k) (n / 256) ++ [n % 256]).drop m = _
      rw [List.drop_append_of_le_length (by rw [be_length]; omega), ih]; rfl
  have := H (8 - k) k n
  rwa [show 8 - k + k = 8 by omega] at this
end Go.Proofs.YtahhkffghhgojaaDoor
/- Contracts of pack.digits and pack.value: a number's eight bytes, the greatest first, and back. -/
namespace Go.Proofs.YtahhkffghhgojaaDoor
open Go.RowKit

/-- What digits hands back: the eight bytes, each by a name. -/
def Eight (n : Nat) (w w' : World) (e : Ending) : Prop :=
  ∃ d0 d1 d2 d3 d4 d5 d6 d7 : Nat, be 8 n = [d0, d1, d2, d3, d4, d5, d6, d7] ∧
    e = .returned (.agg #[.int .u8 d0, .int .u8 d1, .int .u8 d2, .int .u8 d3, .int .u8 d4, .int .u8 d5, .int .u8 d6, .int .u8 d7]) ∧ Below w.heap.size w w'

set_option maxHeartbeats 4000000 in
theorem digits_any (n : Nat) (w : World) (hn : n < 18446744073709551616) :
    Calls Tryd.prog 77 #[.int .u64 n] w fun e w' => Eight n w w' e := by
  have H8 := Lib.hid (be8 n hn)
  go_enter Tryd.func77, Tryd.ntmps77
  go_wp2
  refine wp_loop_rounds 9 ?_
  iterate 9 (rw [rounds_succ]; go_wp2)
  refine bodyPost_ret (results_cell_row (P := Tryd.prog) rfl _ _ w.heap.size _ _ _ _ rfl (heap_alloc2_old w _ _) Tryd.underlying112 rfl (by kernel_rfl)) rfl ?_
  exact ⟨_, _, _, _, _, _, _, _, H8.out, rfl, ((Below.refl _ _).alloc (Nat.le_refl _) _).alloc (by simp) _⟩
end Go.Proofs.YtahhkffghhgojaaDoor
/- Writer: what a Writer reads as (Wr); contract of Writer.put: the bytes are put behind. -/
namespace Go.Proofs.YtahhkffghhgojaaDoor
open Go.RowKit

/-- The Writer at block p has put the bytes l; its blocks, all from B on, are F. -/
def Wr (w : World) (B p : Nat) (F : List Nat) (l : List Nat) : Prop :=
  (∀ c ∈ l, c < 256) ∧ B ≤ p ∧
  ((l = [] ∧ F = [p] ∧ Whole w p 70 #[.pointer none, .int .i64 0]) ∨
   ∃ r a cap, Whole w p 70 #[.pointer (some ⟨r, 0, none⟩), .int .i64 (l.length : Nat)] ∧ Whole w r 97 #[.slice a l.length cap] ∧
     w.ownsRow B 5 1 (.slice a l.length cap) l.length (l.map u8v) ∧ B ≤ r ∧ F = p :: r :: (Value.slice a l.length cap).ownBlock.toList)

/-- What putting the bytes b leaves. -/
def Put (w w' : World) (B p : Nat) (F : List Nat) (l b : List Nat) : Prop :=
  ∃ F', Wr w' B p F' (l ++ b) ∧ Frm F w w' ∧ ∀ x ∈ F', x ∈ F ∨ w.heap.size ≤ x
def PutEnd (w : World) (B p : Nat) (F : List Nat) (l b : List Nat) (e : Ending) (w' : World) : Prop := e = .returned (.tuple #[]) ∧ Put w w' B p F l b

/-- Behind the append: the two stores that are left of put. -/
theorem put_end {B p r : Nat} {sa : Option Addr} {scap k n : Nat} {l b : List Nat} {w w1 : World} {m : Nat} {a' : Option Addr} {cap' : Nat} (hk : k = l.length) (hn : n = b.length) (h8 : ∀ c ∈ l, c < 256) (h8b : ∀ c ∈ b, c < 256)
    (hp : Whole w p 70 #[.pointer (some ⟨r, 0, none⟩), .int .i64 (k : Nat)]) (hr : Whole w r 97 #[.slice sa k scap])
    (hown : w.ownsRow B 5 1 (.slice sa k scap) k (l.map u8v)) (hBr : B ≤ r) (hBp : B ≤ p)
    (h : App (w.drewN m) w1 B 5 (.slice sa k scap) k n (l.map u8v) b a' cap') :
    Put w ((w1.setCell ⟨r, 0, none⟩ (.slice a' (k + n) cap')).setCell ⟨p, 1, none⟩ (.int .i64 ((k : Int) + n))) B p (p :: r :: (Value.slice sa k scap).ownBlock.toList) l b := by
  subst hk; subst hn
  have hpr : p ≠ r := hp.ne hr (by decide)
  have ho : ∀ g, (Value.slice sa l.length scap).ownBlock = some g → g ≠ p ∧ g ≠ r := fun g hg =>
    ⟨fun e => own_ne hown hp (by decide) (e ▸ hg), fun e => own_ne hown hr (by decide) (e ▸ hg)⟩
  have hf1 : Frm ((Value.slice sa l.length scap).ownBlock.toList) w w1 := ((Frm.refl _ w).drewN m).grown h.grown (fun k hk => .inl (by rw [hk]; simp))
  have hp1 : Whole w1 p _ _ := hf1.whole hp (by
    intro hm
    cases hg : (Value.slice sa l.length scap).ownBlock with
    | none => rw [hg] at hm; simp at hm
    | some g => rw [hg] at hm; simp at hm; exact (ho g hg).1 hm.symm)
  have hr1 : Whole w1 r _ _ := hf1.whole hr (by
    intro hm
    cases hg : (Value.slice sa l.length scap).ownBlock with
    | none => rw [hg] at hm; simp at hm
    | some g => rw [hg] at hm; simp at hm; exact (ho g hg).2 hm.symm)
  have hlen : (l ++ b).length = l.length + b.length := List.length_append
  have hp2 := (hp1.other (p := ⟨r, 0, none⟩) hpr (.slice a' (l.length + b.length) cap')).put 1 (.int .i64 ((l.length : Int) + b.length))
  have hr2 := (hr1.put 0 (.slice a' (l.length + b.length) cap')).other (p := ⟨p, 1, none⟩) (Ne.symm hpr) (.int .i64 ((l.length : Int) + b.length))
  have own1 := h.own
  have op1 := own_ne own1 hp1 (by decide)
  have or1 := own_ne own1 hr1 (by decide)
  have own2 := ownsRow_setCell_other own1 (a := ⟨r, 0, none⟩) or1 (.slice a' (l.length + b.length) cap')
  have own3 := ownsRow_setCell_other own2 (a := ⟨p, 1, none⟩) op1 (.int .i64 ((l.length : Int) + b.length))
  refine ⟨p :: r :: (Value.slice a' (l.length + b.length) cap').ownBlock.toList, ⟨?_, hBp, .inr ⟨r, a', cap', ?_, ?_, ?_, hBr, ?_⟩⟩, ?_, ?_⟩
  · intro c hc
    rcases List.mem_append.1 hc with h | h
    · exact h8 c h
    · exact h8b c h
  · rw [hlen]; simpa using hp2
  · rw [hlen]; simpa using hr2
  · rw [hlen, List.map_append]; exact own3
  · rw [hlen]
  · refine ((hf1.weak (U := p :: r :: (Value.slice sa l.length scap).ownBlock.toList) ?_).setCell (.inl (by simp)) _).setCell (.inl (by simp)) _
    intro x hx; left; simp [hx]
  · intro x hx
    simp only [List.mem_cons] at hx
    rcases hx with rfl | rfl | hx
    · left; simp
    · left; simp
    · rcases h.place with hpl | hpl
      · left; rw [hpl] at hx; simp [hx]
      · right
        rw [hpl] at hx
        simp at hx
        omega

set_option maxHeartbeats 1000000 in
/-- put where the row is there. -/
theorem put_on (B p r : Nat) (sa : Option Addr) (scap : Nat) (l : List Nat) (a : Option Addr) (n cap : Nat) (b : List Nat) (w : World) (h8 : ∀ c ∈ l, c < 256)
    (hp : Whole w p 70 #[.pointer (some ⟨r, 0, none⟩), .int .i64 (l.length : Nat)]) (hr : Whole w r 97 #[.slice sa l.length scap])
    (hown : w.ownsRow B 5 1 (.slice sa l.length scap) l.length (l.map u8v)) (hBr : B ≤ r) (hBp : B ≤ p)
    (hb : Bytes w a b) (hn : n = b.length) (hnil : a = none → cap = 0) (hfit : l.length + n ≤ 140737488355328) :
    Calls Tryd.prog 78 #[.pointer (some ⟨p, 0, none⟩), .slice a n cap] w (PutEnd w B p (p :: r :: (Value.slice sa l.length scap).ownBlock.toList) l b) := by
  have hnp : p ≠ r := hp.ne hr (by decide)
  have hBw : B ≤ w.heap.size := Nat.le_of_lt (Nat.lt_of_le_of_lt hBp hp.lt)
  obtain ⟨i0, hi, hz0, hz1, hz2⟩ := info_parts Tryd.info5
  obtain ⟨k, hk⟩ : ∃ k, k = l.length := ⟨_, rfl⟩
  rw [← hk] at hp hr hown hfit ⊢
  have keep : ∀ (m : Nat) (w1 : World), (w.drewN m).grownBy w1 (Value.slice sa k scap).ownBlock → Whole w1 p 70 #[.pointer (some ⟨r, 0, none⟩), .int .i64 (k : Nat)] ∧ Whole w1 r 97 #[.slice sa k scap] := fun m w1 hg =>
    ⟨(hg.block p hp.lt (fun e => own_ne hown hp (by decide) e.symm)).trans hp, (hg.block r hr.lt (fun e => own_ne hown hr (by decide) e.symm)).trans hr⟩
  have KEEP := Lib.hid keep; clear keep
  have c0 := hp.cell 0
  have c1 := hp.cell 1
  have cr := hr.cell 0
  have fp0 := hp.free 0
  have fp1 := hp.free 1
  have fr := hr.free 0
  simp at c0 c1 cr
  have hlt : decide ((k : Int) < (k : Int)) = false := by simp
  have h8b := hb.1
  have FIN := Lib.hid (fun (m : Nat) (w1 : World) (a' : Option Addr) (cap' : Nat) => put_end (B := B) (p := p) (r := r) (sa := sa) (scap := scap) (k := k) (n := n) (l := l) (b := b) (w := w) (w1 := w1) (m := m) (a' := a') (cap' := cap') hk hn h8 h8b hp hr hown hBr hBp)
  clear h8 h8b hp hr
  have HO := Lib.hid hown; clear hown
  have HB := Lib.hid hb; clear hb
  have HN := Lib.hid hn; clear hn
  have HK := Lib.hid hk; clear hk
  go_enter Tryd.func78, Tryd.ntmps78
  go_wp2
  go_quiet (fail)
  go_wp2
  go_region_law ((refine step_app rfl (.tmp 43) (.tmp 44) 22 rfl B 5 i0 Tryd.underlying22 hi hz0 hz1 hz2 (.slice sa k scap) k _ rfl HO.out _ _ _ b rfl ?_ HN.out hnil hfit ?_ ?_; (exact HB.out); (exact hBw); intro a' cap' w1 happ; have HA := Lib.hid happ; obtain ⟨hp1, hr1⟩ := KEEP.out _ _ happ.grown; have q0 := hp1.cell 0; have q1 := hr1.cell 0; have q2 := hr1.free 0; simp at q0 q1; clear happ hp1 hr1))
  all_goals
    obtain ⟨hp1, hr1⟩ := KEEP.out _ _ HA.out.grown
    have hp2 := (hp1.other (p := ⟨r, 0, none⟩) hnp (.slice a' (k + n) cap'))
    have hr2 := (hr1.put 0 (.slice a' (k + n) cap'))
    have s0 := hp2.cell 0
    have s1 := hr2.cell 0
    have s2 := hp2.cell 1
    have s3 := hp2.free 1
    simp at s0 s1 s2
    clear hp1 hr1 hp2 hr2
    go_wp2
    go_end0
    exact ⟨rfl, FIN.out _ _ _ _ HA.out⟩
end Go.Proofs.YtahhkffghhgojaaDoor
/- Contract of Writer.Done: a row of its own with all that was put. -/
namespace Go.Proofs.YtahhkffghhgojaaDoor
open Go.RowKit

theorem Frm.undrew {S : List Nat} {w w' : World} (h : Frm S w.drew w') : Frm S w w' := ⟨h.os, h.tape, h.output, h.size, h.block⟩

theorem done_nil (p : Nat) (w : World) (hp : Whole w p 70 #[.pointer none, .int .i64 0]) :
    Calls Tryd.prog 25 #[.pointer (some ⟨p, 0, none⟩)] w fun e w' => e = .returned (.slice none 0 0) ∧ w = w' := by
  have c0 := hp.cell 0
  simp at c0
  clear hp
  go_enter Tryd.func25, Tryd.ntmps25
  go_wp2
  go_ret
  exact ⟨rfl, rfl⟩

set_option maxRecDepth 100000 in
set_option maxHeartbeats 1000000 in
theorem done_on (B p r : Nat) (sa : Option Addr) (scap : Nat) (l : List Nat) (w : World) (h8 : ∀ c ∈ l, c < 256)
    (hp : Whole w p 70 #[.pointer (some ⟨r, 0, none⟩), .int .i64 (l.length : Nat)]) (hr : Whole w r 97 #[.slice sa l.length scap])
    (hown : w.ownsRow B 5 1 (.slice sa l.length scap) l.length (l.map u8v)) (hfit : l.length ≤ 140737488355328) :
    Calls Tryd.prog 25 #[.pointer (some ⟨p, 0, none⟩)] w fun e w' => Own w w' l e := by
  obtain ⟨hb, hnil⟩ := own_bytes hown h8
  have hcap : l.length ≤ scap := by
    rcases hown.2 with ⟨h, h0⟩ | ⟨g, cap, cur, hv, _, _, hnc, _⟩
    · omega
    · injection hv with _ _ h; omega
  have hcap63 : scap ≤ 9223372036854775807 := by
    rcases hown.2 with ⟨h, h0⟩ | ⟨g, cap, cur, hv, _, _, _, hm, _⟩
    · injection h with _ _ h; omega
    · injection hv with _ _ h; unfold maxLen at hm; omega
  have CL := Lib.hid (fun (w' : World) (hB : Bytes w' sa l) => clone_any sa l.length scap l w' hB rfl hnil hfit)
  obtain ⟨k, hk⟩ : ∃ k, k = l.length := ⟨_, rfl⟩
  rw [← hk] at hp hr hcap CL
  have c0 := hp.cell 0
  have c1 := hp.cell 1
  have cr := hr.cell 0
  simp at c0 c1 cr
  clear hp hr hown hnil hfit
  have HB := Lib.hid hb; clear hb
  have HK := Lib.hid hk; clear hk
  go_enter Tryd.func25, Tryd.ntmps25
  go_wp2
  go_still_tail 12, (by kernel_rfl)
  change wpList _ _ _ _ _ w.drew
  go_wp2_with fail
  refine (CL.out w.drew HB.out).mono ?_
  rintro e w' ⟨a', cap', rfl, ho, hf⟩
  have HO := Lib.hid ho; clear ho
  have HF := Lib.hid hf; clear hf
  clear HK
  go_wp2
  go_ret
  exact ⟨a', cap', rfl, HO.out, HF.out.undrew⟩

theorem done_any {w : World} {B p : Nat} {F : List Nat} {l : List Nat} (h : Wr w B p F l) (hfit : l.length ≤ 140737488355328) :
    Calls Tryd.prog 25 #[.pointer (some ⟨p, 0, none⟩)] w fun e w' => Own w w' l e := by
  obtain ⟨h8, hBp, ⟨rfl, rfl, hp⟩ | ⟨r, a, cap, hp, hr, hown, hBr, rfl⟩⟩ := h
  · exact (done_nil p w hp).mono fun e w' ⟨he, hw⟩ => ⟨none, 0, he, by subst hw; exact World.ownsRow_nil _ _ _ _, by subst hw; exact Frm.refl _ _⟩
  · exact done_on B p r a cap l w h8 hp hr hown hfit
end Go.Proofs.YtahhkffghhgojaaDoor
/- Pieces of slices of bytes. They speak of no program. -/
namespace Go.Proofs.YtahhkffghhgojaaDoor
open Go.RowKit

theorem Bytes.nil {w : World} (a : Option Addr) : Bytes w a [] := ⟨by simp, by simp, .inl rfl⟩
theorem Bytes.take {w : World} {a : Option Addr} {l : List Nat} (h : Bytes w a l) (k : Nat) : Bytes w a (l.take k) := by
  obtain ⟨h8, hm, hc⟩ := h
  refine ⟨fun c hc => h8 c (List.mem_of_mem_take hc), by have := List.length_take_le k l; simp; omega, ?_⟩
  rcases hc with h | ⟨b, off, ha, hc⟩
  · left; rw [h]; simp
  · refine .inr ⟨b, off, ha, fun i hi => ?_⟩
    rw [List.length_take] at hi
    have e : (l.take k).getD i 0 = l.getD i 0 := by simp [List.getD, show i < k by omega]
    rw [e]; exact hc i (by omega)
theorem Bytes.drop {w : World} {a : Option Addr} {l : List Nat} (h : Bytes w a l) (k : Nat) : Bytes w (a.map (fun x => x.add k)) (l.drop k) := by
  obtain ⟨h8, hm, hc⟩ := h
  refine ⟨fun c hc => h8 c (List.mem_of_mem_drop hc), by simp; omega, ?_⟩
  rcases hc with h | ⟨b, off, ha, hc⟩
  · left; rw [h]; simp
  · refine .inr ⟨b, off + k, by rw [ha]; simp [addr_add], fun i hi => ?_⟩
    rw [List.length_drop] at hi
    have e : (l.drop k).getD i 0 = l.getD (k + i) 0 := by simp [List.getD, List.getElem?_drop]
    rw [e, Nat.add_assoc]; exact hc (k + i) (by omega)
end Go.Proofs.YtahhkffghhgojaaDoor
/- Reader: what a Reader reads as (Rdr), what a throw leaves (Thrown); contracts of reads, Left, throw, take. -/
namespace Go.Proofs.YtahhkffghhgojaaDoor
open Go.RowKit

/-- The Reader at block rb, of the call at cb, has the bytes l left, which lie in block db. -/
def Rdr (w : World) (rb cb db : Nat) (l : List Nat) : Prop :=
  ∃ a cap, Whole w rb 82 #[.slice a l.length cap, .pointer (some ⟨cb, 0, none⟩)] ∧ Whole w cb 79 #[.bool false, .int .i64 0] ∧ Bytes w a l ∧
    l.length ≤ cap ∧ cap ≤ 9223372036854775807 ∧ (a = none → cap = 0) ∧ (∀ x, a = some x → x.block = db) ∧ db ≠ rb ∧ db ≠ cb

/-- What is thrown: the call itself, with its code. -/
def Thrown (w : World) (rb cb : Nat) (c : Int) (e : Ending) (w' : World) : Prop :=
  e = .panicked [{ v := .iface 77 (.pointer (some ⟨cb, 0, none⟩)), recovered := false }] ∧ Whole w' cb 79 #[.bool false, .int .i64 c] ∧ Frm [rb, cb] w w'

theorem Rdr.ne {w : World} {rb cb db : Nat} {l : List Nat} (h : Rdr w rb cb db l) : rb ≠ cb := by
  obtain ⟨a, cap, h1, h2, _⟩ := h
  exact h1.ne h2 (by decide)

theorem reads_any {w : World} {rb cb db : Nat} {l : List Nat} (h : Rdr w rb cb db l) :
    Calls Tryd.prog 54 #[.pointer (some ⟨rb, 0, none⟩)] w fun e w' => e = .returned (.bool true) ∧ w = w' := by
  obtain ⟨a, cap, h1, h2, _⟩ := h
  have c1 := h1.cell 1
  have c2 := h2.cell 0
  simp at c1 c2
  clear h1 h2
  go_enter Tryd.func54, Tryd.ntmps54
  go_wp2
  go_ret
  exact ⟨rfl, rfl⟩

theorem left_any {w : World} {rb cb db : Nat} {l : List Nat} (h : Rdr w rb cb db l) :
    Calls Tryd.prog 50 #[.pointer (some ⟨rb, 0, none⟩)] w fun e w' => e = .returned (.int .i64 (l.length : Nat)) ∧ w = w' := by
  have H := Lib.hid h
  obtain ⟨a, cap, h1, h2, _⟩ := h
  have c1 := h1.cell 0
  simp at c1
  clear h1 h2
  go_enter Tryd.func50, Tryd.ntmps50
  go_wp2_with (go_at_call 54; refine (reads_any H.out).mono ?_; rintro e w' ⟨rfl, rfl⟩)
  go_ret
  exact ⟨rfl, rfl⟩

theorem throw_any {w : World} {rb cb db : Nat} {l : List Nat} (c : Int) (h : Rdr w rb cb db l) :
    Calls Tryd.prog 55 #[.pointer (some ⟨rb, 0, none⟩), .int .i64 c] w (Thrown w rb cb c) := by
  have hne := h.ne
  obtain ⟨a, cap, h1, h2, _⟩ := h
  have c1 := h1.cell 1
  have c2 := h2.cell 1
  have f2 := h2.free 1
  have c3 := (h1.other (p := ⟨cb, 1, none⟩) hne (.int .i64 c)).cell 1
  simp at c1 c2 c3
  have HW := Lib.hid (h2.put 1 (.int .i64 c))
  clear h1 h2
  go_enter Tryd.func55, Tryd.ntmps55
  go_wp2
  exact ⟨rfl, rfl, HW.out, (Frm.refl _ _).setCell (.inl (by simp)) _⟩

/-- What is taken: a piece of the bytes. -/
def Taken (w : World) (rb cb db : Nat) (l : List Nat) (k : Nat) (e : Ending) (w' : World) : Prop :=
  ∃ a cap, e = .returned (.slice a k cap) ∧ Bytes w' a (l.take k) ∧ k ≤ cap ∧ cap ≤ 9223372036854775807 ∧ (a = none → cap = 0) ∧ (∀ x, a = some x → x.block = db) ∧ Rdr w' rb cb db (l.drop k) ∧ Frm [rb] w w'

theorem take_short {w : World} {rb cb db : Nat} {l : List Nat} (k : Nat) (h : Rdr w rb cb db l) (hk : l.length < k) (hk64 : k < 18446744073709551616) :
    Calls Tryd.prog 63 #[.pointer (some ⟨rb, 0, none⟩), .int .u64 k] w (Thrown w rb cb 4) := by
  have H := Lib.hid h
  obtain ⟨a, cap, h1, h2, h3, hlc, hcm, _⟩ := h
  have c0 := h1.cell 0
  have c1 := h1.cell 1
  have c2 := h2.cell 1
  simp at c0 c1 c2
  clear h1 h2 h3
  go_enter Tryd.func63, Tryd.ntmps63
  go_wp2_with (go_at_call 54; refine (reads_any H.out).mono ?_; rintro e w' ⟨rfl, rfl⟩)
  refine (throw_any 4 H.out).mono ?_
  rintro e w' ⟨rfl, h1, h2⟩
  exact ⟨rfl, rfl, h1, h2⟩

theorem take_end {w : World} {rb cb db : Nat} {l : List Nat} {k : Nat} {a a2 : Option Addr} {cap cap2 : Nat} (hne : rb ≠ cb)
    (h1 : Whole w rb 82 #[.slice a l.length cap, .pointer (some ⟨cb, 0, none⟩)]) (h2 : Whole w cb 79 #[.bool false, .int .i64 0]) (h3 : Bytes w a l)
    (hlc : l.length ≤ cap) (hcm : cap ≤ 9223372036854775807) (hnil : a = none → cap = 0) (hdb : ∀ x, a = some x → x.block = db) (d1 : db ≠ rb) (d2 : db ≠ cb) (hk : k ≤ l.length)
    (hb : Bytes w a2 (l.drop k)) (hl2 : l.length - k ≤ cap2) (hc2 : cap2 ≤ cap) (hn2 : a2 = none → cap2 = 0) (hdb2 : ∀ x, a2 = some x → x.block = db) :
    Taken w rb cb db l k (.returned (.slice a k cap)) (w.setCell ⟨rb, 0, none⟩ (.slice a2 (l.length - k) cap2)) := by
  have hf : Frm [rb] w (w.setCell ⟨rb, 0, none⟩ (.slice a2 (l.length - k) cap2)) := (Frm.refl _ _).setCell (.inl (by simp)) _
  refine ⟨a, cap, rfl, hf.bytes (h3.take k) (fun x hx => by rw [hdb x hx]; simpa using d1), by omega, hcm, hnil, hdb, ⟨a2, cap2, ?_, hf.whole h2 (by simpa using hne.symm), hf.bytes hb (fun x hx => by rw [hdb2 x hx]; simpa using d1), by simpa using hl2, by omega, hn2, hdb2, d1, d2⟩, hf⟩
  simpa using h1.put 0 (.slice a2 (l.length - k) cap2)

set_option maxHeartbeats 1000000 in
theorem take_ok {w : World} {rb cb db : Nat} {l : List Nat} (k : Nat) (h : Rdr w rb cb db l) (hk : k ≤ l.length) :
    Calls Tryd.prog 63 #[.pointer (some ⟨rb, 0, none⟩), .int .u64 k] w (Taken w rb cb db l k) := by
  have H := Lib.hid h
  obtain ⟨a, cap, h1, h2, h3, hlc, hcm, hnil, hdb, d1, d2⟩ := h
  have c0 := h1.cell 0
  have c1 := h1.cell 1
  have c2 := h2.cell 1
  have f0 := h1.free 0
  simp at c0 c1 c2
  have hll : l.length ≤ 9223372036854775807 := h3.2.1
  have END := Lib.hid (fun (a2 : Option Addr) (cap2 : Nat) => take_end (a2 := a2) (cap2 := cap2) H.out.ne h1 h2 h3 hlc hcm hnil hdb d1 d2 hk)
  have H3 := Lib.hid h3; clear h3
  have HNIL := Lib.hid hnil; clear hnil
  have HDB := Lib.hid hdb; clear hdb
  clear h1 h2 d1 d2
  go_enter Tryd.func63, Tryd.ntmps63
  go_wp2_with (go_at_call 54; refine (reads_any H.out).mono ?_; rintro e w' ⟨rfl, rfl⟩)
  · go_ret
    obtain rfl : cap = k := by assumption
    have e : l.drop cap = [] := List.drop_eq_nil_of_le (by omega)
    exact END.out a 0 (by rw [e]; exact Bytes.nil _) (by omega) (by omega) (fun _ => rfl) HDB.out
  · go_ret
    exact END.out _ _ (H3.out.drop k) (by omega) (by omega) (fun h => by have := HNIL.out (by simpa using h); omega) (fun x hx => by
      cases a with
      | none => cases hx
      | some y =>
        simp at hx
        subst hx
        have := HDB.out y rfl
        unfold Addr.add
        split <;> exact this)
end Go.Proofs.YtahhkffghhgojaaDoor
/- Contract of pack.value: the number whose eight bytes they are. -/
namespace Go.Proofs.YtahhkffghhgojaaDoor
open Go.RowKit

theorem join_u64 (x c : Nat) (hx : x < 72057594037927936) (hc : c < 256) : bits .or .u64 (IntKind.u64.wrap ((x : Int) * 256)) (c : Int) = ((x * 256 + c : Nat) : Int) := by
  have e : IntKind.u64.wrap ((x : Int) * 256) = ((x * 256 : Nat) : Int) := by
    simp [IntKind.wrap, IntKind.bits, IntKind.signed]; omega
  rw [e, u64_or_nat _ _ (by omega) (by omega), nat_join 8 _ _ (by omega) (by omega)]
theorem join_u64_0 (c : Nat) (hc : c < 256) : bits .or .u64 0 (c : Int) = (c : Int) := by
  have := u64_or_nat 0 c (by omega) (by omega)
  simpa using this

set_option maxHeartbeats 4000000 in
theorem value_any (c0 c1 c2 c3 c4 c5 c6 c7 : Nat) (w : World) (h0 : c0 < 256) (h1 : c1 < 256) (h2 : c2 < 256) (h3 : c3 < 256) (h4 : c4 < 256) (h5 : c5 < 256) (h6 : c6 < 256) (h7 : c7 < 256) :
    Calls Tryd.prog 64 #[.agg #[.int .u8 c0, .int .u8 c1, .int .u8 c2, .int .u8 c3, .int .u8 c4, .int .u8 c5, .int .u8 c6, .int .u8 c7]] w
      fun e w' => e = .returned (.int .u64 (val [c0, c1, c2, c3, c4, c5, c6, c7] : Nat)) ∧ Below w.heap.size w w' := by
  have i0 : ∀ w, (Instr.index 112 (.agg #[.int .u8 c0, .int .u8 c1, .int .u8 c2, .int .u8 c3, .int .u8 c4, .int .u8 c5, .int .u8 c6, .int .u8 c7]) (.int .i64 0)).run Tryd.prog w = .ok (.int .u8 c0) w := fun _ => by kernel_rfl
  have i1 : ∀ w, (Instr.index 112 (.agg #[.int .u8 c0, .int .u8 c1, .int .u8 c2, .int .u8 c3, .int .u8 c4, .int .u8 c5, .int .u8 c6, .int .u8 c7]) (.int .i64 1)).run Tryd.prog w = .ok (.int .u8 c1) w := fun _ => by kernel_rfl
  have i2 : ∀ w, (Instr.index 112 (.agg #[.int .u8 c0, .int .u8 c1, .int .u8 c2, .int .u8 c3, .int .u8 c4, .int .u8 c5, .int .u8 c6, .int .u8 c7]) (.int .i64 2)).run Tryd.prog w = .ok (.int .u8 c2) w := fun _ => by kernel_rfl
  have i3 : ∀ w, (Instr.index 112 (.agg #[.int .u8 c0, .int .u8 c1, .int .u8 c2, .int .u8 c3, .int .u8 c4, .int .u8 c5, .int .u8 c6, .int .u8 c7]) (.int .i64 3)).run Tryd.prog w = .ok (.int .u8 c3) w := fun _ => by kernel_rfl
  have i4 : ∀ w, (Instr.index 112 (.agg #[.int .u8 c0, .int .u8 c1, .int .u8 c2, .int .u8 c3, .int .u8 c4, .int .u8 c5, .int .u8 c6, .int .u8 c7]) (.int .i64 4)).run Tryd.prog w = .ok (.int .u8 c4) w := fun _ => by kernel_rfl
  have i5 : ∀ w, (Instr.index 112 (.agg #[.int .u8 c0, .int .u8 c1, .int .u8 c2, .int .u8 c3, .int .u8 c4, .int .u8 c5, .int .u8 c6, .int .u8 c7]) (.int .i64 5)).run Tryd.prog w = .ok (.int .u8 c5) w := fun _ => by kernel_rfl
  have i6 : ∀ w, (Instr.index 112 (.agg #[.int .u8 c0, .int .u8 c1, .int .u8 c2, .int .u8 c3, .int .u8 c4, .int .u8 c5, .int .u8 c6, .int .u8 c7]) (.int .i64 6)).run Tryd.prog w = .ok (.int .u8 c6) w := fun _ => by kernel_rfl
  have i7 : ∀ w, (Instr.index 112 (.agg #[.int .u8 c0, .int .u8 c1, .int .u8 c2, .int .u8 c3, .int .u8 c4, .int .u8 c5, .int .u8 c6, .int .u8 c7]) (.int .i64 7)).run Tryd.prog w = .ok (.int .u8 c7) w := fun _ => by kernel_rfl
  have f0 := join_u64_0 c0 h0
  obtain ⟨x0, e0⟩ : ∃ x, x = c0 := ⟨_, rfl⟩
  have b0 : x0 < 256 := by omega
  replace f0 : bits .or .u64 0 (c0 : Int) = (x0 : Int) := by rw [f0, e0]
  obtain ⟨x1, e1⟩ : ∃ x, x = x0 * 256 + c1 := ⟨_, rfl⟩
  have b1 : x1 < 65536 := by omega
  have f1 := join_u64 x0 c1 (by omega) h1
  rw [← e1] at f1
  obtain ⟨x2, e2⟩ : ∃ x, x = x1 * 256 + c2 := ⟨_, rfl⟩
  have b2 : x2 < 16777216 := by omega
  have f2 := join_u64 x1 c2 (by omega) h2
  rw [← e2] at f2
  obtain ⟨x3, e3⟩ : ∃ x, x = x2 * 256 + c3 := ⟨_, rfl⟩
  have b3 : x3 < 4294967296 := by omega
  have f3 := join_u64 x2 c3 (by omega) h3
  rw [← e3] at f3
  obtain ⟨x4, e4⟩ : ∃ x, x = x3 * 256 + c4 := ⟨_, rfl⟩
  have b4 : x4 < 1099511627776 := by omega
  have f4 := join_u64 x3 c4 (by omega) h4
  rw [← e4] at f4
  obtain ⟨x5, e5⟩ : ∃ x, x = x4 * 256 + c5 := ⟨_, rfl⟩
  have b5 : x5 < 281474976710656 := by omega
  have f5 := join_u64 x4 c5 (by omega) h5
  rw [← e5] at f5
  obtain ⟨x6, e6⟩ : ∃ x, x = x5 * 256 + c6 := ⟨_, rfl⟩
  have b6 : x6 < 72057594037927936 := by omega
  have f6 := join_u64 x5 c6 (by omega) h6
  rw [← e6] at f6
  obtain ⟨x7, e7⟩ : ∃ x, x = x6 * 256 + c7 := ⟨_, rfl⟩
  have b7 : x7 < 18446744073709551616 := by omega
  have f7 := join_u64 x6 c7 (by omega) h7
  rw [← e7] at f7
  have E : Hid (val [c0, c1, c2, c3, c4, c5, c6, c7] = x7) := by
    show val [c0, c1, c2, c3, c4, c5, c6, c7] = x7
    simp only [val, List.foldl]; omega
  clear b0 b1 b2 b3 b4 b5 b6 b7
  clear e7 e6 e5 e4 e3 e2 e1 e0
  go_enter Tryd.func64, Tryd.ntmps64
  go_wp2
  refine wp_loop_rounds 9 ?_
  iterate 9 (rw [rounds_succ]; go_wp2)
  go_ret
  exact ⟨ret_same (by rw [E.out]), (Below.refl _ _).alloc (Nat.le_refl _) _⟩
end Go.Proofs.YtahhkffghhgojaaDoor
/- Contracts of Reader.number: the next bytes as a number, or what is thrown. -/
namespace Go.Proofs.YtahhkffghhgojaaDoor
open Go.RowKit

theorem Rdr.keep {w w' : World} {rb cb db : Nat} {l : List Nat} {S : List Nat} (h : Rdr w rb cb db l) (hf : Frm S w w') (hr : rb ∉ S) (hc : cb ∉ S) (hd : db ∉ S) : Rdr w' rb cb db l := by
  obtain ⟨a, cap, h1, h2, h3, h4, h5, h6, h7, h8, h9⟩ := h
  exact ⟨a, cap, hf.whole h1 hr, hf.whole h2 hc, hf.bytes h3 (fun x hx => by rw [h7 x hx]; exact hd), h4, h5, h6, h7, h8, h9⟩
theorem Thrown.early {w0 w w' : World} {rb cb : Nat} {c : Int} {e : Ending} (h : Thrown w rb cb c e w') (hf : Frm [rb] w0 w) : Thrown w0 rb cb c e w' :=
  ⟨h.1, h.2.1, hf.trans h.2.2 (by simp) (fun x hx => .inl hx)⟩
theorem Thrown.early0 {w0 w w' : World} {rb cb : Nat} {c : Int} {e : Ending} (h : Thrown w rb cb c e w') (hf : Frm [] w0 w) : Thrown w0 rb cb c e w' :=
  ⟨h.1, h.2.1, hf.trans h.2.2 (by simp) (fun x hx => .inl hx)⟩
theorem Rdr.lt {w : World} {rb cb db : Nat} {l : List Nat} (h : Rdr w rb cb db l) : rb < w.heap.size ∧ cb < w.heap.size := by
  obtain ⟨a, cap, h1, h2, _⟩ := h
  exact ⟨h1.lt, h2.lt⟩

set_option maxRecDepth 100000 in
set_option maxHeartbeats 1000000 in
theorem rnumber_short {w : World} {rb cb db : Nat} {l : List Nat} (k : Nat) (h : Rdr w rb cb db l) (hk : k = 1 ∨ k = 2 ∨ k = 4 ∨ k = 8) (hl : l.length < k) :
    Calls Tryd.prog 51 #[.pointer (some ⟨rb, 0, none⟩), .int .i64 k] w (Thrown w rb cb 4) := by
  have H := Lib.hid h; clear h
  have z0 : IntKind.i64.wrap 0 = 0 := rfl
  have z4 : IntKind.i64.wrap 4 = 4 := rfl
  have z6 : IntKind.i64.wrap 6 = 6 := rfl
  have z7 : IntKind.i64.wrap 7 = 7 := rfl
  have hf : Frm [] w ((w.alloc (.cells #[.int .u8 0, .int .u8 0, .int .u8 0, .int .u8 0, .int .u8 0, .int .u8 0, .int .u8 0, .int .u8 0] 112)).drew) := ((Frm.refl _ _).alloc _).drew
  have HF := Lib.hid hf; clear hf
  rcases hk with rfl | rfl | rfl | rfl
  all_goals
    go_enter Tryd.func51, Tryd.ntmps51
    go_wp2
    refine wp_region_any (by kernel_rfl) ?_
    change wpAny _ _ _ _ _ _ _ (World.drew _)
    refine wpAny_take (i := 0) (v := ?_) rfl (by kernel_rfl) (by kernel_rfl) (by kernel_rfl) (fun _ _ _ h => h) (Or.inl ⟨by rfl, ?_⟩) ?_
    rotate_left 1
    · intro w; go_simp; try with_reducible rfl
    refine wpAny_take (i := 1) (v := ?_) rfl (by kernel_rfl) (by kernel_rfl) (by kernel_rfl) (fun _ _ _ h => h) (Or.inl ⟨by rfl, ?_⟩) ?_
    rotate_left 1
    · intro w; go_simp; try with_reducible rfl
    refine wpAny_take (i := 2) (v := ?_) rfl (by kernel_rfl) (by kernel_rfl) (by kernel_rfl) (fun _ _ _ h => h) (Or.inl ⟨by rfl, ?_⟩) ?_
    rotate_left 1
    · intro w; go_simp; try with_reducible rfl
    refine wpAny_take (i := 3) (v := ?_) rfl (by kernel_rfl) (by kernel_rfl) (by kernel_rfl) (fun _ _ _ h => h) (Or.inl ⟨by rfl, ?_⟩) ?_
    rotate_left 1
    · intro w; go_simp; try with_reducible rfl
    refine wpAny_take (i := 4) (v := ?_) rfl (by kernel_rfl) (by kernel_rfl) (by kernel_rfl) (fun _ _ _ h => h) (Or.inl ⟨by rfl, ?_⟩) ?_
    rotate_left 1
    · intro w; go_simp; try with_reducible rfl
    refine wpAny_take (i := 5) (v := ?_) rfl (by kernel_rfl) (by kernel_rfl) (by kernel_rfl) (fun _ _ _ h => h) (Or.inl ⟨by rfl, ?_⟩) ?_
    rotate_left 1
    · intro w; go_simp; try with_reducible rfl
    refine wpAny_ready (rs := [6]) (by kernel_rfl) (by simp) ?_
    refine AllReady.cons rfl (fun K hK => ?_) AllReady.nil
    go_simp
    refine (take_short _ (H.out.keep HF.out (by simp) (by simp) (by simp)) hl (by omega)).mono ?_
    rintro e w' ⟨rfl, h1, h2⟩
    exact ⟨rfl, Thrown.early0 ⟨rfl, h1, h2⟩ HF.out⟩

/-- What a call that computes hands back, and what is left then. -/
def PkGot (w : World) (rb cb db : Nat) (l : List Nat) (k : Nat) (v : Value) (e : Ending) (w' : World) : Prop :=
  e = .returned v ∧ Rdr w' rb cb db (l.drop k) ∧ Frm [rb] w w'

/-- Eight zeros with k bytes laid over their end. -/
theorem splice_eight (k : Nat) (l : List Nat) (hk : k ≤ 8) (hl : l.length = k) : splice [u8v 0, u8v 0, u8v 0, u8v 0, u8v 0, u8v 0, u8v 0, u8v 0] (8 - k) (l.map u8v) = (List.replicate (8 - k) 0 ++ l).map u8v := by
  have e : [u8v 0, u8v 0, u8v 0, u8v 0, u8v 0, u8v 0, u8v 0, u8v 0] = List.replicate 8 (u8v 0) := rfl
  rw [e]
  unfold splice
  rw [List.take_replicate, List.drop_replicate, List.map_append, List.map_replicate, List.length_map, hl, show min (8 - k) 8 = 8 - k by omega, show 8 - (8 - k + k) = 0 by omega]
  simp
theorem eight_named (m : List Nat) (h : m.length = 8) : ∃ c0 c1 c2 c3 c4 c5 c6 c7 : Nat, m = [c0, c1, c2, c3, c4, c5, c6, c7] := by
  match m, h with
  | [c0, c1, c2, c3, c4, c5, c6, c7], _ => exact ⟨_, _, _, _, _, _, _, _, rfl⟩

theorem copy_side {w1 : World} {ta : Option Addr} {m : List Nat} (h : Bytes w1 ta m) (hpos : 0 < (m.map u8v).length) : ∃ ad, ta = some ad ∧ ∀ j v, (m.map u8v)[j]? = some v → w1.cell? (ad.add j) = some v := by
  rcases h.2.2 with h0 | ⟨b, off, ha, hc⟩
  · subst h0; simp at hpos
  · exact ⟨_, ha, Bytes.news hc⟩
theorem Frm.above {w w' : World} {B : Nat} (h : Below B w w') : Frm (List.range' B (w.heap.size - B)) w w' :=
  ⟨h.os, h.tape, h.output, h.size, fun k hk hn => h.block k (by
    rcases Nat.lt_or_ge k B with h1 | h1
    · exact h1
    · exact absurd (List.mem_range'_1.2 ⟨h1, by omega⟩) hn)⟩
/-- Behind the copy and the reckoning: what is left. -/
theorem got_end {w w0 w1 w2 w3 : World} {rb cb db : Nat} {l : List Nat} {k : Nat} {v : Value} (hlt : rb < w.heap.size ∧ cb < w.heap.size) (hdb : db < w.heap.size)
    (h0 : Frm [] w w0) (hr : Rdr w1 rb cb db (l.drop k)) (h1 : Frm [rb] w0 w1) (h2 : Below w.heap.size w1 w2) (h3 : Below w2.heap.size w2 w3) : PkGot w rb cb db l k v (.returned v) w3 := by
  have h2' := Frm.above h2
  have nm : ∀ x, x < w.heap.size → x ∉ List.range' w.heap.size (w1.heap.size - w.heap.size) := fun x hx hm => by
    have := (List.mem_range'_1.1 hm).1; omega
  refine ⟨rfl, (hr.keep h2' (nm _ hlt.1) (nm _ hlt.2) (nm _ hdb)).keep (Frm.ofBelow h3) (by simp) (by simp) (by simp), ?_⟩
  have a := (h0.trans h1 (U := [rb]) (by simp) (fun x hx => .inl hx))
  have b := a.trans h2' (U := [rb]) (fun x hx => hx) (fun x hx => .inr (List.mem_range'_1.1 hx).1)
  exact b.trans (Frm.ofBelow h3) (fun x hx => hx) (by simp)

set_option maxRecDepth 100000 in
set_option maxHeartbeats 2000000 in
theorem rnumber_ok1 {w : World} {rb cb db : Nat} {l : List Nat} (h : Rdr w rb cb db l) (hl : 1 ≤ l.length) (hdb : db < w.heap.size) :
    Calls Tryd.prog 51 #[.pointer (some ⟨rb, 0, none⟩), .int .i64 1] w (PkGot w rb cb db l 1 (.int .u64 (val (l.take 1) : Nat))) := by
  have hlt := h.lt
  have hm8 : ∀ c ∈ List.replicate (8 - 1) 0 ++ l.take 1, c < 256 := by
    obtain ⟨a, cap, _, _, h3, _⟩ := h
    intro c hc
    rcases List.mem_append.1 hc with h | h
    · have := (List.mem_replicate.1 h).2; omega
    · exact h3.1 c (List.mem_of_mem_take h)
  obtain ⟨c0, c1, c2, c3, c4, c5, c6, c7, hc⟩ := eight_named (List.replicate (8 - 1) 0 ++ l.take 1) (by simp; omega)
  have hv : val [c0, c1, c2, c3, c4, c5, c6, c7] = val (l.take 1) := by rw [← hc, val_zeros]
  have hsp := splice_eight 1 (l.take 1) (by omega) (by simp; omega)
  rw [hc] at hm8 hsp
  obtain ⟨cs, hcs⟩ : ∃ cs, cs = (l.take 1).map u8v := ⟨_, rfl⟩
  have hcl : cs.length = 1 := by rw [hcs]; simp; omega
  have hc1 : ∀ v ∈ cs, v.oneCell' = true := by rw [hcs]; exact u8v_one _
  rw [← hcs] at hsp
  have HSP := Lib.hid hsp; clear hsp
  have HV := Lib.hid hv; clear hv
  have HC8 := Lib.hid hm8; clear hm8
  have HCS := Lib.hid hcs; clear hcs
  have HCL := Lib.hid hcl; clear hcl
  have HC1 := Lib.hid hc1; clear hc1
  clear hc
  have H := Lib.hid h; clear h
  have z7 : IntKind.i64.wrap 7 = 7 := rfl
  have hf : Frm [] w ((w.alloc (.cells #[.int .u8 0, .int .u8 0, .int .u8 0, .int .u8 0, .int .u8 0, .int .u8 0, .int .u8 0, .int .u8 0] 112)).drew) := ((Frm.refl _ _).alloc _).drew
  have HW := Lib.hid (Whole.made w 112 #[.int .u8 0, .int .u8 0, .int .u8 0, .int .u8 0, .int .u8 0, .int .u8 0, .int .u8 0, .int .u8 0])
  have HF := Lib.hid hf; clear hf
  have HLT := Lib.hid hlt; clear hlt
  have HG : Hid (∀ w1, Frm [rb] (w.alloc (.cells #[.int .u8 0, .int .u8 0, .int .u8 0, .int .u8 0, .int .u8 0, .int .u8 0, .int .u8 0, .int .u8 0] 112)).drew w1 → w1.heap[w.heap.size]? = some (.cells [u8v 0, u8v 0, u8v 0, u8v 0, u8v 0, u8v 0, u8v 0, u8v 0].toArray 112 (0, 0))) := by
    intro w1 h1
    exact h1.whole (show Whole _ _ _ _ from HW.out) (by have := HLT.out.1; simp; omega)
  go_enter Tryd.func51, Tryd.ntmps51
  go_wp2
  go_region_law (first | (refine step_copy_splice rfl (.tmp 8) (.tmp 12) 22 22 rfl 5 Tryd.underlying22 (by kernel_rfl) _ ta 1 _ 1 _ rfl rfl w.heap.size (8 - 1) [u8v 0, u8v 0, u8v 0, u8v 0, u8v 0, u8v 0, u8v 0, u8v 0] 112 (HG.out _ HT.out.2.2.2.2.2.2) cs HCL.out (fun hp => ⟨rfl, by rw [HCS.out] at hp ⊢; exact copy_side HT.out.1 hp⟩) (by rw [HCL.out]; decide) HC1.out w.heap.size w1 (Below.refl _ _) (Nat.le_refl _) ?_; intro w2 hw2 hb2; have HB2 := Lib.hid hb2; clear hb2) | (go_simp; go_at_call 63; refine (take_ok _ (H.out.keep HF.out (by simp) (by simp) (by simp)) hl).mono ?_; rintro e w1 ⟨ta, tcap, rfl, ht⟩; have HT := Lib.hid ht; clear ht))
  have hrow : w2.heap[w.heap.size]? = some (.cells #[.int .u8 c0, .int .u8 c1, .int .u8 c2, .int .u8 c3, .int .u8 c4, .int .u8 c5, .int .u8 c6, .int .u8 c7] 112 (0, 0)) := by
    have := hw2.out
    rw [HSP.out] at this
    exact this
  have HROW := Lib.hid hrow; clear hrow
  clear hw2
  go_wp2_with (refine wpList_load_row rfl 112 (.tmp 5) rfl w.heap.size rfl 112 _ (0, 0) _ HROW.out Tryd.underlying112 rfl (by kernel_rfl) ?_)
  refine (value_any c0 c1 c2 c3 c4 c5 c6 c7 _ (HC8.out _ (by simp)) (HC8.out _ (by simp)) (HC8.out _ (by simp)) (HC8.out _ (by simp)) (HC8.out _ (by simp)) (HC8.out _ (by simp)) (HC8.out _ (by simp)) (HC8.out _ (by simp))).mono ?_
  rintro e w3 ⟨rfl, hb3⟩
  have HB3 := Lib.hid hb3; clear hb3
  go_wp2
  go_ret
  have := HV.out
  rw [← this]
  exact got_end HLT.out hdb HF.out HT.out.2.2.2.2.2.1 HT.out.2.2.2.2.2.2 HB2.out HB3.out

set_option maxRecDepth 100000 in
set_option maxHeartbeats 2000000 in
theorem rnumber_ok2 {w : World} {rb cb db : Nat} {l : List Nat} (h : Rdr w rb cb db l) (hl : 2 ≤ l.length) (hdb : db < w.heap.size) :
    Calls Tryd.prog 51 #[.pointer (some ⟨rb, 0, none⟩), .int .i64 2] w (PkGot w rb cb db l 2 (.int .u64 (val (l.take 2) : Nat))) := by
  have hlt := h.lt
  have hm8 : ∀ c ∈ List.replicate (8 - 2) 0 ++ l.take 2, c < 256 := by
    obtain ⟨a, cap, _, _, h3, _⟩ := h
    intro c hc
    rcases List.mem_append.1 hc with h | h
    · have := (List.mem_replicate.1 h).2; omega
    · exact h3.1 c (List.mem_of_mem_take h)
  obtain ⟨c0, c1, c2, c3, c4, c5, c6, c7, hc⟩ := eight_named (List.replicate (8 - 2) 0 ++ l.take 2) (by simp; omega)
  have hv : val [c0, c1, c2, c3, c4, c5, c6, c7] = val (l.take 2) := by rw [← hc, val_zeros]
  have hsp := splice_eight 2 (l.take 2) (by omega) (by simp; omega)
  rw [hc] at hm8 hsp
  obtain ⟨cs, hcs⟩ : ∃ cs, cs = (l.take 2).map u8v := ⟨_, rfl⟩
  have hcl : cs.length = 2 := by rw [hcs]; simp; omega
  have hc1 : ∀ v ∈ cs, v.oneCell' = true := by rw [hcs]; exact u8v_one _
  rw [← hcs] at hsp
  have HSP := Lib.hid hsp; clear hsp
  have HV := Lib.hid hv; clear hv
  have HC8 := Lib.hid hm8; clear hm8
  have HCS := Lib.hid hcs; clear hcs
  have HCL := Lib.hid hcl; clear hcl
  have HC1 := Lib.hid hc1; clear hc1
  clear hc
  have H := Lib.hid h; clear h
  have z7 : IntKind.i64.wrap 6 = 6 := rfl
  have hf : Frm [] w ((w.alloc (.cells #[.int .u8 0, .int .u8 0, .int .u8 0, .int .u8 0, .int .u8 0, .int .u8 0, .int .u8 0, .int .u8 0] 112)).drew) := ((Frm.refl _ _).alloc _).drew
  have HW := Lib.hid (Whole.made w 112 #[.int .u8 0, .int .u8 0, .int .u8 0, .int .u8 0, .int .u8 0, .int .u8 0, .int .u8 0, .int .u8 0])
  have HF := Lib.hid hf; clear hf
  have HLT := Lib.hid hlt; clear hlt
  have HG : Hid (∀ w1, Frm [rb] (w.alloc (.cells #[.int .u8 0, .int .u8 0, .int .u8 0, .int .u8 0, .int .u8 0, .int .u8 0, .int .u8 0, .int .u8 0] 112)).drew w1 → w1.heap[w.heap.size]? = some (.cells [u8v 0, u8v 0, u8v 0, u8v 0, u8v 0, u8v 0, u8v 0, u8v 0].toArray 112 (0, 0))) := by
    intro w1 h1
    exact h1.whole (show Whole _ _ _ _ from HW.out) (by have := HLT.out.1; simp; omega)
  go_enter Tryd.func51, Tryd.ntmps51
  go_wp2
  go_region_law (first | (refine step_copy_splice rfl (.tmp 8) (.tmp 12) 22 22 rfl 5 Tryd.underlying22 (by kernel_rfl) _ ta 2 _ 2 _ rfl rfl w.heap.size (8 - 2) [u8v 0, u8v 0, u8v 0, u8v 0, u8v 0, u8v 0, u8v 0, u8v 0] 112 (HG.out _ HT.out.2.2.2.2.2.2) cs HCL.out (fun hp => ⟨rfl, by rw [HCS.out] at hp ⊢; exact copy_side HT.out.1 hp⟩) (by rw [HCL.out]; decide) HC1.out w.heap.size w1 (Below.refl _ _) (Nat.le_refl _) ?_; intro w2 hw2 hb2; have HB2 := Lib.hid hb2; clear hb2) | (go_simp; go_at_call 63; refine (take_ok _ (H.out.keep HF.out (by simp) (by simp) (by simp)) hl).mono ?_; rintro e w1 ⟨ta, tcap, rfl, ht⟩; have HT := Lib.hid ht; clear ht))
  have hrow : w2.heap[w.heap.size]? = some (.cells #[.int .u8 c0, .int .u8 c1, .int .u8 c2, .int .u8 c3, .int .u8 c4, .int .u8 c5, .int .u8 c6, .int .u8 c7] 112 (0, 0)) := by
    have := hw2.out
    rw [HSP.out] at this
    exact this
  have HROW := Lib.hid hrow; clear hrow
  clear hw2
  go_wp2_with (refine wpList_load_row rfl 112 (.tmp 5) rfl w.heap.size rfl 112 _ (0, 0) _ HROW.out Tryd.underlying112 rfl (by kernel_rfl) ?_)
  refine (value_any c0 c1 c2 c3 c4 c5 c6 c7 _ (HC8.out _ (by simp)) (HC8.out _ (by simp)) (HC8.out _ (by simp)) (HC8.out _ (by simp)) (HC8.out _ (by simp)) (HC8.out _ (by simp)) (HC8.out _ (by simp)) (HC8.out _ (by simp))).mono ?_
  rintro e w3 ⟨rfl, hb3⟩
  have HB3 := Lib.hid hb3; clear hb3
  go_wp2
  go_ret
  have := HV.out
  rw [← this]
  exact got_end HLT.out hdb HF.out HT.out.2.2.2.2.2.1 HT.out.2.2.2.2.2.2 HB2.out HB3.out

set_option maxRecDepth 100000 in
set_option maxHeartbeats 2000000 in
theorem rnumber_ok4 {w : World} {rb cb db : Nat} {l : List Nat} (h : Rdr w rb cb db l) (hl : 4 ≤ l.length) (hdb : db < w.heap.size) :
    Calls Tryd.prog 51 #[.pointer (some ⟨rb, 0, none⟩), .int .i64 4] w (PkGot w rb cb db l 4 (.int .u64 (val (l.take 4) : Nat))) := by
  have hlt := h.lt
  have hm8 : ∀ c ∈ List.replicate (8 - 4) 0 ++ l.take 4, c < 256 := by
    obtain ⟨a, cap, _, _, h3, _⟩ := h
    intro c hc
    rcases List.mem_append.1 hc with h | h
    · have := (List.mem_replicate.1 h).2; omega
    · exact h3.1 c (List.mem_of_mem_take h)
  obtain ⟨c0, c1, c2, c3, c4, c5, c6, c7, hc⟩ := eight_named (List.replicate (8 - 4) 0 ++ l.take 4) (by simp; omega)
  have hv : val [c0, c1, c2, c3, c4, c5, c6, c7] = val (l.take 4) := by rw [← hc, val_zeros]
  have hsp := splice_eight 4 (l.take 4) (by omega) (by simp; omega)
  rw [hc] at hm8 hsp
  obtain ⟨cs, hcs⟩ : ∃ cs, cs = (l.take 4).map u8v := ⟨_, rfl⟩
  have hcl : cs.length = 4 := by rw [hcs]; simp; omega
  have hc1 : ∀ v ∈ cs, v.oneCell' = true := by rw [hcs]; exact u8v_one _
  rw [← hcs] at hsp
  have HSP := Lib.hid hsp; clear hsp
  have HV := Lib.hid hv; clear hv
  have HC8 := Lib.hid hm8; clear hm8
  have HCS := Lib.hid hcs; clear hcs
  have HCL := Lib.hid hcl; clear hcl
  have HC1 := Lib.hid hc1; clear hc1
  clear hc
  have H := Lib.hid h; clear h
  have z7 : IntKind.i64.wrap 4 = 4 := rfl
  have hf : Frm [] w ((w.alloc (.cells #[.int .u8 0, .int .u8 0, .int .u8 0, .int .u8 0, .int .u8 0, .int .u8 0, .int .u8 0, .int .u8 0] 112)).drew) := ((Frm.refl _ _).alloc _).drew
  have HW := Lib.hid (Whole.made w 112 #[.int .u8 0, .int .u8 0, .int .u8 0, .int .u8 0, .int .u8 0, .int .u8 0, .int .u8 0, .int .u8 0])
  have HF := Lib.hid hf; clear hf
  have HLT := Lib.hid hlt; clear hlt
  have HG : Hid (∀ w1, Frm [rb] (w.alloc (.cells #[.int .u8 0, .int .u8 0, .int .u8 0, .int .u8 0, .int .u8 0, .int .u8 0, .int .u8 0, .int .u8 0] 112)).drew w1 → w1.heap[w.heap.size]? = some (.cells [u8v 0, u8v 0, u8v 0, u8v 0, u8v 0, u8v 0, u8v 0, u8v 0].toArray 112 (0, 0))) := by
    intro w1 h1
    exact h1.whole (show Whole _ _ _ _ from HW.out) (by have := HLT.out.1; simp; omega)
  go_enter Tryd.func51, Tryd.ntmps51
  go_wp2
  go_region_law (first | (refine step_copy_splice rfl (.tmp 8) (.tmp 12) 22 22 rfl 5 Tryd.underlying22 (by kernel_rfl) _ ta 4 _ 4 _ rfl rfl w.heap.size (8 - 4) [u8v 0, u8v 0, u8v 0, u8v 0, u8v 0, u8v 0, u8v 0, u8v 0] 112 (HG.out _ HT.out.2.2.2.2.2.2) cs HCL.out (fun hp => ⟨rfl, by rw [HCS.out] at hp ⊢; exact copy_side HT.out.1 hp⟩) (by rw [HCL.out]; decide) HC1.out w.heap.size w1 (Below.refl _ _) (Nat.le_refl _) ?_; intro w2 hw2 hb2; have HB2 := Lib.hid hb2; clear hb2) | (go_simp; go_at_call 63; refine (take_ok _ (H.out.keep HF.out (by simp) (by simp) (by simp)) hl).mono ?_; rintro e w1 ⟨ta, tcap, rfl, ht⟩; have HT := Lib.hid ht; clear ht))
  have hrow : w2.heap[w.heap.size]? = some (.cells #[.int .u8 c0, .int .u8 c1, .int .u8 c2, .int .u8 c3, .int .u8 c4, .int .u8 c5, .int .u8 c6, .int .u8 c7] 112 (0, 0)) := by
    have := hw2.out
    rw [HSP.out] at this
    exact this
  have HROW := Lib.hid hrow; clear hrow
  clear hw2
  go_wp2_with (refine wpList_load_row rfl 112 (.tmp 5) rfl w.heap.size rfl 112 _ (0, 0) _ HROW.out Tryd.underlying112 rfl (by kernel_rfl) ?_)
  refine (value_any c0 c1 c2 c3 c4 c5 c6 c7 _ (HC8.out _ (by simp)) (HC8.out _ (by simp)) (HC8.out _ (by simp)) (HC8.out _ (by simp)) (HC8.out _ (by simp)) (HC8.out _ (by simp)) (HC8.out _ (by simp)) (HC8.out _ (by simp))).mono ?_
  rintro e w3 ⟨rfl, hb3⟩
  have HB3 := Lib.hid hb3; clear hb3
  go_wp2
  go_ret
  have := HV.out
  rw [← this]
  exact got_end HLT.out hdb HF.out HT.out.2.2.2.2.2.1 HT.out.2.2.2.2.2.2 HB2.out HB3.out

set_option maxRecDepth 100000 in
set_option maxHeartbeats 2000000 in
theorem rnumber_ok8 {w : World} {rb cb db : Nat} {l : List Nat} (h : Rdr w rb cb db l) (hl : 8 ≤ l.length) (hdb : db < w.heap.size) :
    Calls Tryd.prog 51 #[.pointer (some ⟨rb, 0, none⟩), .int .i64 8] w (PkGot w rb cb db l 8 (.int .u64 (val (l.take 8) : Nat))) := by
  have hlt := h.lt
  have hm8 : ∀ c ∈ List.replicate (8 - 8) 0 ++ l.take 8, c < 256 := by
    obtain ⟨a, cap, _, _, h3, _⟩ := h
    intro c hc
    rcases List.mem_append.1 hc with h | h
    · have := (List.mem_replicate.1 h).2; omega
    · exact h3.1 c (List.mem_of_mem_take h)
  obtain ⟨c0, c1, c2, c3, c4, c5, c6, c7, hc⟩ := eight_named (List.replicate (8 - 8) 0 ++ l.take 8) (by simp; omega)
  have hv : val [c0, c1, c2, c3, c4, c5, c6, c7] = val (l.take 8) := by rw [← hc, val_zeros]
  have hsp := splice_eight 8 (l.take 8) (by omega) (by simp; omega)
  rw [hc] at hm8 hsp
  obtain ⟨cs, hcs⟩ : ∃ cs, cs = (l.take 8).map u8v := ⟨_, rfl⟩
  have hcl : cs.length = 8 := by rw [hcs]; simp; omega
  have hc1 : ∀ v ∈ cs, v.oneCell' = true := by rw [hcs]; exact u8v_one _
  rw [← hcs] at hsp
  have HSP := Lib.hid hsp; clear hsp
  have HV := Lib.hid hv; clear hv
  have HC8 := Lib.hid hm8; clear hm8
  have HCS := Lib.hid hcs; clear hcs
  have HCL := Lib.hid hcl; clear hcl
  have HC1 := Lib.hid hc1; clear hc1
  clear hc
  have H := Lib.hid h; clear h
  have z7 : IntKind.i64.wrap 0 = 0 := rfl
  have hf : Frm [] w ((w.alloc (.cells #[.int .u8 0, .int .u8 0, .int .u8 0, .int .u8 0, .int .u8 0, .int .u8 0, .int .u8 0, .int .u8 0] 112)).drew) := ((Frm.refl _ _).alloc _).drew
  have HW := Lib.hid (Whole.made w 112 #[.int .u8 0, .int .u8 0, .int .u8 0, .int .u8 0, .int .u8 0, .int .u8 0, .int .u8 0, .int .u8 0])
  have HF := Lib.hid hf; clear hf
  have HLT := Lib.hid hlt; clear hlt
  have HG : Hid (∀ w1, Frm [rb] (w.alloc (.cells #[.int .u8 0, .int .u8 0, .int .u8 0, .int .u8 0, .int .u8 0, .int .u8 0, .int .u8 0, .int .u8 0] 112)).drew w1 → w1.heap[w.heap.size]? = some (.cells [u8v 0, u8v 0, u8v 0, u8v 0, u8v 0, u8v 0, u8v 0, u8v 0].toArray 112 (0, 0))) := by
    intro w1 h1
    exact h1.whole (show Whole _ _ _ _ from HW.out) (by have := HLT.out.1; simp; omega)
  go_enter Tryd.func51, Tryd.ntmps51
  go_wp2
  go_region_law (first | (refine step_copy_splice rfl (.tmp 8) (.tmp 12) 22 22 rfl 5 Tryd.underlying22 (by kernel_rfl) _ ta 8 _ 8 _ rfl rfl w.heap.size (8 - 8) [u8v 0, u8v 0, u8v 0, u8v 0, u8v 0, u8v 0, u8v 0, u8v 0] 112 (HG.out _ HT.out.2.2.2.2.2.2) cs HCL.out (fun hp => ⟨rfl, by rw [HCS.out] at hp ⊢; exact copy_side HT.out.1 hp⟩) (by rw [HCL.out]; decide) HC1.out w.heap.size w1 (Below.refl _ _) (Nat.le_refl _) ?_; intro w2 hw2 hb2; have HB2 := Lib.hid hb2; clear hb2) | (go_simp; go_at_call 63; refine (take_ok _ (H.out.keep HF.out (by simp) (by simp) (by simp)) hl).mono ?_; rintro e w1 ⟨ta, tcap, rfl, ht⟩; have HT := Lib.hid ht; clear ht))
  have hrow : w2.heap[w.heap.size]? = some (.cells #[.int .u8 c0, .int .u8 c1, .int .u8 c2, .int .u8 c3, .int .u8 c4, .int .u8 c5, .int .u8 c6, .int .u8 c7] 112 (0, 0)) := by
    have := hw2.out
    rw [HSP.out] at this
    exact this
  have HROW := Lib.hid hrow; clear hrow
  clear hw2
  go_wp2_with (refine wpList_load_row rfl 112 (.tmp 5) rfl w.heap.size rfl 112 _ (0, 0) _ HROW.out Tryd.underlying112 rfl (by kernel_rfl) ?_)
  refine (value_any c0 c1 c2 c3 c4 c5 c6 c7 _ (HC8.out _ (by simp)) (HC8.out _ (by simp)) (HC8.out _ (by simp)) (HC8.out _ (by simp)) (HC8.out _ (by simp)) (HC8.out _ (by simp)) (HC8.out _ (by simp)) (HC8.out _ (by simp))).mono ?_
  rintro e w3 ⟨rfl, hb3⟩
  have HB3 := Lib.hid hb3; clear hb3
  go_wp2
  go_ret
  have := HV.out
  rw [← this]
  exact got_end HLT.out hdb HF.out HT.out.2.2.2.2.2.1 HT.out.2.2.2.2.2.2 HB2.out HB3.out

theorem rnumber_ok {w : World} {rb cb db : Nat} {l : List Nat} (k : Nat) (h : Rdr w rb cb db l) (hk : k = 1 ∨ k = 2 ∨ k = 4 ∨ k = 8) (hl : k ≤ l.length) (hdb : db < w.heap.size) :
    Calls Tryd.prog 51 #[.pointer (some ⟨rb, 0, none⟩), .int .i64 k] w (PkGot w rb cb db l k (.int .u64 (val (l.take k) : Nat))) := by
  rcases hk with rfl | rfl | rfl | rfl
  · exact rnumber_ok1 h hl hdb
  · exact rnumber_ok2 h hl hdb
  · exact rnumber_ok4 h hl hdb
  · exact rnumber_ok8 h hl hdb
end Go.Proofs.YtahhkffghhgojaaDoor
/- Contracts of Reader.U8, U16, U32, U64, counted, Bytes. -/
namespace Go.Proofs.YtahhkffghhgojaaDoor
open Go.RowKit

theorem Rdr.h8 {w : World} {rb cb db : Nat} {l : List Nat} (h : Rdr w rb cb db l) : ∀ c ∈ l, c < 256 := by
  obtain ⟨a, cap, _, _, h3, _⟩ := h
  exact h3.1
theorem Rdr.fits {w : World} {rb cb db : Nat} {l : List Nat} (h : Rdr w rb cb db l) : l.length ≤ 9223372036854775807 := by
  obtain ⟨a, cap, _, _, h3, _⟩ := h
  exact h3.2.1
theorem val_take_lt {w : World} {rb cb db : Nat} {l : List Nat} (h : Rdr w rb cb db l) (k : Nat) (hk : k ≤ l.length) : val (l.take k) < 256 ^ k := by
  have := val_lt (l.take k) (fun c hc => h.h8 c (List.mem_of_mem_take hc))
  rwa [List.length_take, Nat.min_eq_left hk] at this

theorem ru8_ok {w : World} {rb cb db : Nat} {l : List Nat} (h : Rdr w rb cb db l) (hl : 1 ≤ l.length) (hdb : db < w.heap.size) :
    Calls Tryd.prog 34 #[.pointer (some ⟨rb, 0, none⟩)] w (PkGot w rb cb db l 1 (.int .u8 (val (l.take 1) : Nat))) := by
  have hv : val (l.take 1) < 256 := val_take_lt h 1 hl
  have HN := Lib.hid (rnumber_ok 1 h (by omega) hl hdb)
  clear h
  obtain ⟨v, hve⟩ : ∃ v, v = val (l.take 1) := ⟨_, rfl⟩
  rw [← hve] at hv HN ⊢
  have HVE := Lib.hid hve; clear hve
  go_enter Tryd.func34, Tryd.ntmps34
  go_wp2_with fail
  refine HN.out.mono ?_
  rintro e w' ⟨rfl, hr, hf⟩
  have HR := Lib.hid hr; clear hr
  go_wp2
  go_ret
  exact ⟨rfl, HR.out, hf⟩
theorem ru8_short {w : World} {rb cb db : Nat} {l : List Nat} (h : Rdr w rb cb db l) (hl : l.length < 1) :
    Calls Tryd.prog 34 #[.pointer (some ⟨rb, 0, none⟩)] w (Thrown w rb cb 4) := by
  have HN := Lib.hid (rnumber_short 1 h (by omega) hl)
  clear h
  go_enter Tryd.func34, Tryd.ntmps34
  go_wp2_with fail
  refine HN.out.mono ?_
  rintro e w' ⟨rfl, h1, h2⟩
  exact ⟨rfl, rfl, h1, h2⟩

theorem ru64_ok {w : World} {rb cb db : Nat} {l : List Nat} (h : Rdr w rb cb db l) (hl : 8 ≤ l.length) (hdb : db < w.heap.size) :
    Calls Tryd.prog 53 #[.pointer (some ⟨rb, 0, none⟩)] w (PkGot w rb cb db l 8 (.int .u64 (val (l.take 8) : Nat))) := by
  have hv : val (l.take 8) < 18446744073709551616 := val_take_lt h 8 hl
  have HN := Lib.hid (rnumber_ok 8 h (by omega) hl hdb)
  clear h
  obtain ⟨v, hve⟩ : ∃ v, v = val (l.take 8) := ⟨_, rfl⟩
  rw [← hve] at hv HN ⊢
  have HVE := Lib.hid hve; clear hve
  go_enter Tryd.func53, Tryd.ntmps53
  go_wp2_with fail
  refine HN.out.mono ?_
  rintro e w' ⟨rfl, hr, hf⟩
  have HR := Lib.hid hr; clear hr
  go_wp2
  go_ret
  exact ⟨rfl, HR.out, hf⟩
theorem ru64_short {w : World} {rb cb db : Nat} {l : List Nat} (h : Rdr w rb cb db l) (hl : l.length < 8) :
    Calls Tryd.prog 53 #[.pointer (some ⟨rb, 0, none⟩)] w (Thrown w rb cb 4) := by
  have HN := Lib.hid (rnumber_short 8 h (by omega) hl)
  clear h
  go_enter Tryd.func53, Tryd.ntmps53
  go_wp2_with fail
  refine HN.out.mono ?_
  rintro e w' ⟨rfl, h1, h2⟩
  exact ⟨rfl, rfl, h1, h2⟩

theorem counted_short {w : World} {rb cb db : Nat} {l : List Nat} (h : Rdr w rb cb db l) (hl : l.length < 4) :
    Calls Tryd.prog 65 #[.pointer (some ⟨rb, 0, none⟩)] w (Thrown w rb cb 4) := by
  have HN := Lib.hid (rnumber_short 4 h (by omega) hl)
  clear h
  go_enter Tryd.func65, Tryd.ntmps65
  go_wp2_with fail
  refine HN.out.mono ?_
  rintro e w' ⟨rfl, h1, h2⟩
  exact ⟨rfl, rfl, h1, h2⟩
theorem counted_less {w : World} {rb cb db : Nat} {l : List Nat} (h : Rdr w rb cb db l) (hl : 4 ≤ l.length) (hdb : db < w.heap.size) (hn : l.length - 4 < val (l.take 4)) :
    Calls Tryd.prog 65 #[.pointer (some ⟨rb, 0, none⟩)] w (Thrown w rb cb 4) := by
  have hv : val (l.take 4) < 4294967296 := val_take_lt h 4 hl
  have HN := Lib.hid (rnumber_ok 4 h (by omega) hl hdb)
  clear h
  obtain ⟨v, hve⟩ : ∃ v, v = val (l.take 4) := ⟨_, rfl⟩
  rw [← hve] at hv HN hn
  have HVE := Lib.hid hve; clear hve
  go_enter Tryd.func65, Tryd.ntmps65
  go_wp2_with fail
  refine HN.out.mono ?_
  rintro e w' ⟨rfl, hr, hf⟩
  have HR := Lib.hid hr; clear hr
  go_wp2_with fail
  refine (take_short v HR.out (by simp; omega) (by omega)).mono ?_
  rintro e w2 ⟨rfl, h1, h2⟩
  exact ⟨rfl, Thrown.early ⟨rfl, h1, h2⟩ hf⟩
/-- What a counted call takes. -/
def Counted (w : World) (rb cb db : Nat) (l : List Nat) (n : Nat) (e : Ending) (w' : World) : Prop :=
  ∃ a cap, e = .returned (.slice a n cap) ∧ Bytes w' a ((l.drop 4).take n) ∧ n ≤ cap ∧ cap ≤ 9223372036854775807 ∧ (a = none → cap = 0) ∧ (∀ x, a = some x → x.block = db) ∧ Rdr w' rb cb db (l.drop (4 + n)) ∧ Frm [rb] w w'
theorem counted_ok {w : World} {rb cb db : Nat} {l : List Nat} (h : Rdr w rb cb db l) (hl : 4 ≤ l.length) (hdb : db < w.heap.size) (n : Nat) (hn : val (l.take 4) = n) (hn2 : n ≤ l.length - 4) :
    Calls Tryd.prog 65 #[.pointer (some ⟨rb, 0, none⟩)] w (Counted w rb cb db l n) := by
  have HN := Lib.hid (rnumber_ok 4 h (by omega) hl hdb)
  clear h
  rw [hn] at HN
  clear hn
  go_enter Tryd.func65, Tryd.ntmps65
  go_wp2_with fail
  refine HN.out.mono ?_
  rintro e w' ⟨rfl, hr, hf⟩
  have HR := Lib.hid hr; clear hr
  go_wp2_with fail
  refine (take_ok n HR.out (by simp; omega)).mono ?_
  rintro e w2 ⟨a, cap, rfl, ht⟩
  have HT := Lib.hid ht; clear ht
  go_wp2
  go_ret
  obtain ⟨h1, h2, h3, h4, h5, h6, h7⟩ := HT.out
  rw [List.drop_drop] at h6
  exact ⟨a, cap, rfl, h1, h2, h3, h4, h5, h6, hf.trans h7 (fun x hx => hx) (fun x hx => .inl hx)⟩

/-- What Bytes hands back. -/
def GotBytes (w : World) (rb cb db : Nat) (l : List Nat) (n : Nat) (e : Ending) (w' : World) : Prop :=
  ∃ a cap, e = .returned (.slice a n cap) ∧ Bytes w' a ((l.drop 4).take n) ∧ (a = none → cap = 0) ∧ Rdr w' rb cb db (l.drop (4 + n)) ∧ Frm [rb] w w'
end Go.Proofs.YtahhkffghhgojaaDoor
/- Contracts of Read's deferred closure, by how Read is left. -/
namespace Go.Proofs.YtahhkffghhgojaaDoor
open Go.RowKit

theorem neq_same {P : Program} (w : World) {tp te : TypeId} {j : TypeInfo} (a : Addr) (hp : P.underlying tp = some (.pointer te)) (hte : P.info? te = some j) :
    (binOp .neq tp (.pointer (some a)) (.pointer (some a))).run P w = .ok (.bool false) w := by
  have h : ∀ d : Nat, (Op.equalIn (d + 1) tp (.pointer (some a)) (.pointer (some a))).run P w = .ok true w := fun d => by
    simp [Op.equalIn, run_underlying hp, sizeOf, typeInfo, hte, run_sameAddr_same]
  simp only [binOp]
  simp [Op.equal, Op.maxDepth, h 9999]
theorem call_info : ∃ j, Tryd.prog.info? 79 = some j := by
  have h : (Tryd.prog.info? 79).isSome = true := by kernel_rfl
  exact Option.isSome_iff_exists.1 h
theorem neq_call (a : Addr) (w : World) : (binOp .neq 77 (.pointer (some a)) (.pointer (some a))).run Tryd.prog w = .ok (.bool false) w := by
  obtain ⟨j, hj⟩ := call_info
  exact neq_same w a Tryd.underlying77 hj
theorem as_call (v : Option Addr) (w : World) : (Instr.typeAssert (.iface 77 (.pointer v)) 20 77 true).run Tryd.prog w = .ok (.tuple #[.pointer v, .bool true]) w := by kernel_rfl
theorem as_call_int (n : Int) (w : World) : (Instr.typeAssert (.iface 3 (.int .i64 n)) 20 77 true).run Tryd.prog w = .ok (.tuple #[.pointer none, .bool false]) w := by kernel_rfl

theorem d_idle (ob cb eb : Nat) (code : Int) (w : World) (ho : Whole w ob 77 #[.pointer (some ⟨cb, 0, none⟩)]) (hc : Whole w cb 79 #[.bool false, .int .i64 code]) :
    CallsD Tryd.prog 32 #[.pointer (some ⟨ob, 0, none⟩), .pointer (some ⟨eb, 0, none⟩)] .returning w fun e u' w' =>
      e = .returned (.tuple #[]) ∧ u' = .returning ∧ w' = w.setCell ⟨cb, 0, none⟩ (.bool true) := by
  have hne : ob ≠ cb := ho.ne hc (by decide)
  have c0 := ho.cell 0
  have c1 := hc.cell 0
  have f1 := hc.free 0
  have c2 := (ho.other (p := ⟨cb, 0, none⟩) hne (.bool true)).cell 0
  have c3 := (hc.put 0 (.bool true)).cell 1
  simp at c0 c1 c2 c3
  clear ho hc
  refine callsD_of_wpS Tryd.func32 rfl fun c₀ cs hu => ?_
  simp only [Tryd.ntmps32, List.size_toArray, List.length_cons, List.length_nil, Nat.reduceAdd, Nat.reduceSub, Array.replicate_succ, Array.replicate_zero, List.push_toArray, List.append_toArray, List.nil_append, List.cons_append]
  apply wpS_seq
  refine wpS_of_wp ?_
  go_wp2
  show Code.wpS _ _ _ _ _ _
  apply wpS_seq
  apply wpS_region
  simp [wpOpsS, go_sem, recoverD, hu, Exit.thenS]
  refine wpS_of_wp ?_
  go_wp2
  cases c₀
  simp_all [bodyPostS, results, Tryd.results32]

theorem d_own (ob cb eb : Nat) (code x : Int) (older : List PanicEntry) (w : World) (ho : Whole w ob 77 #[.pointer (some ⟨cb, 0, none⟩)]) (hc : Whole w cb 79 #[.bool false, .int .i64 code]) (he : Whole w eb 33 #[.int .i64 x]) :
    CallsD Tryd.prog 32 #[.pointer (some ⟨ob, 0, none⟩), .pointer (some ⟨eb, 0, none⟩)] (.panicking ({ v := .iface 77 (.pointer (some ⟨cb, 0, none⟩)), recovered := false } :: older)) w fun e u' w' =>
      e = .returned (.tuple #[]) ∧ u' = .panicking ({ v := .iface 77 (.pointer (some ⟨cb, 0, none⟩)), recovered := true } :: older) ∧ w' = (w.setCell ⟨cb, 0, none⟩ (.bool true)).setCell ⟨eb, 0, none⟩ (.int .i64 code) := by
  have hne : ob ≠ cb := ho.ne hc (by decide)
  have hne2 : eb ≠ cb := he.ne hc (by decide)
  have e0 := (he.other (p := ⟨cb, 0, none⟩) hne2 (.bool true)).cell 0
  have e1 := (he.other (p := ⟨cb, 0, none⟩) hne2 (.bool true)).free 0
  simp at e0
  clear he
  have ta := as_call
  have ta2 := as_call_int
  have tn := neq_call
  have c0 := ho.cell 0
  have c1 := hc.cell 0
  have f1 := hc.free 0
  have c2 := (ho.other (p := ⟨cb, 0, none⟩) hne (.bool true)).cell 0
  have c3 := (hc.put 0 (.bool true)).cell 1
  simp at c0 c1 c2 c3
  clear ho hc
  refine callsD_of_wpS Tryd.func32 rfl fun c₀ cs hu => ?_
  simp only [Tryd.ntmps32, List.size_toArray, List.length_cons, List.length_nil, Nat.reduceAdd, Nat.reduceSub, Array.replicate_succ, Array.replicate_zero, List.push_toArray, List.append_toArray, List.nil_append, List.cons_append]
  apply wpS_seq
  refine wpS_of_wp ?_
  go_wp2
  show Code.wpS _ _ _ _ _ _
  apply wpS_seq
  apply wpS_region
  simp [wpOpsS, go_sem, recoverD, hu, Exit.thenS]
  refine wpS_of_wp ?_
  go_wp2
  simp [bodyPostS, results, Tryd.results32]

end Go.Proofs.YtahhkffghhgojaaDoor
/- Contract of Read, whatever is handed over as by: by how by is left. -/
namespace Go.Proofs.YtahhkffghhgojaaDoor
open Go.RowKit

/-- What by is told: where its reader is, and that nothing else of old has turned. -/
structure Told (w w1 : World) (rb cb db : Nat) (l : List Nat) : Prop where
  frm : Frm [] w w1
  rdr : Rdr w1 rb cb db l
  hr : w.heap.size ≤ rb
  hc : w.heap.size ≤ cb
  hd : w.heap.size ≤ db
  dlt : db < w1.heap.size

/-- What by leaves where it returns: so much left (rest), the caller's own word (Q), and of what stood when it was called nothing but its reader, and what is older than Read, has turned. -/
def ByRet (w w1 : World) (rb cb db : Nat) (Q : World → List Nat → Prop) (e : Ending) (w2 : World) : Prop :=
  e = .returned (.tuple #[]) ∧ ∃ rest S, Q w2 rest ∧ Rdr w2 rb cb db rest ∧ Frm S w1 w2 ∧ ∀ x ∈ S, x = rb ∨ x = cb ∨ x < w.heap.size ∨ w1.heap.size ≤ x

/-- The same where by throws what its reader throws, with the code c. -/
def ByThrow (w w1 : World) (rb cb : Nat) (c : Int) (Q : World → Prop) (e : Ending) (w2 : World) : Prop :=
  e = .panicked [{ v := .iface 77 (.pointer (some ⟨cb, 0, none⟩)), recovered := false }] ∧ ∃ S, Q w2 ∧ Whole w2 cb 79 #[.bool false, .int .i64 c] ∧ Frm S w1 w2 ∧ ∀ x ∈ S, x = rb ∨ x = cb ∨ x < w.heap.size ∨ w1.heap.size ≤ x
/-- The same where by panics with an int. -/
def ByPanic (w w1 : World) (rb cb : Nat) (m : Int) (Q : World → Prop) (e : Ending) (w2 : World) : Prop :=
  e = .panicked [{ v := .iface 3 (.int .i64 m), recovered := false }] ∧ ∃ S c, Q w2 ∧ Whole w2 cb 79 #[.bool false, .int .i64 c] ∧ Frm S w1 w2 ∧ ∀ x ∈ S, x = rb ∨ x = cb ∨ x < w.heap.size ∨ w1.heap.size ≤ x

/-- What Read leaves: its answer; the world that by left, but for Read's own blocks. -/
def ReadRet (w : World) (Q : World → Int → Prop) (e : Ending) (w' : World) : Prop :=
  ∃ w2 c T, e = .returned (.int .i64 c) ∧ Q w2 c ∧ Frm T w2 w' ∧ ∀ x ∈ T, w.heap.size ≤ x

def ReadPanics (w : World) (m : Int) (Q : World → Prop) (e : Ending) (w' : World) : Prop :=
  ∃ w2 T, e = .panicked [{ v := .iface 3 (.int .i64 m), recovered := false }, { v := .iface 3 (.int .i64 m), recovered := true }] ∧ Q w2 ∧ Frm T w2 w' ∧ ∀ x ∈ T, w.heap.size ≤ x

theorem end_any {w : World} {rb cb db : Nat} {l : List Nat} (h : Rdr w rb cb db l) (c : Int) (hc : c = if l = [] then 0 else 5) :
    Calls Tryd.prog 33 #[.pointer (some ⟨cb, 0, none⟩), .pointer (some ⟨rb, 0, none⟩)] w fun e w' => e = .returned (.int .i64 c) ∧ w = w' := by
  have H := Lib.hid h
  obtain ⟨a, cap, _, h2, _⟩ := h
  have c1 := h2.cell 1
  simp at c1
  clear h2
  have HC := Lib.hid hc; clear hc
  by_cases hl : l = []
  · have hc0 : c = 0 := by rw [HC.out, if_pos hl]
    have h0 : l.length = 0 := by rw [hl]; rfl
    subst hc0
    have HL := Lib.hid hl; clear hl HC
    go_enter Tryd.func33, Tryd.ntmps33
    go_wp2_with (go_at_call 50; refine (left_any H.out).mono ?_; rintro e w' ⟨rfl, rfl⟩)
    go_ret
    exact ⟨rfl, rfl⟩
  · have hc5 : c = 5 := by rw [HC.out, if_neg hl]
    have h0 : 0 < l.length := by cases l with | nil => exact absurd rfl hl | cons _ _ => simp
    subst hc5
    clear hl HC
    go_enter Tryd.func33, Tryd.ntmps33
    go_wp2_with (go_at_call 50; refine (left_any H.out).mono ?_; rintro e w' ⟨rfl, rfl⟩)
    go_ret
    exact ⟨rfl, rfl⟩

theorem Whole.made' {w : World} (t : TypeId) (cs : Array Value) {g : Nat} (hg : g = w.heap.size) : Whole (w.alloc (.cells cs t)) g t cs := by subst hg; exact Whole.made w t cs

/-- Where Read calls by. -/
theorem told_mk {w w0 w1 : World} {cb ob : Nat} {l : List Nat} {a' : Option Addr} {cap' : Nat} (h8 : ∀ c ∈ l, c < 256) (hc : Whole w0 cb 79 #[.bool false, .int .i64 0]) (ho : Whole w0 ob 77 #[.pointer (some ⟨cb, 0, none⟩)])
    (hf : Frm [] w w0) (e2 : cb = w.heap.size + 1) (e3 : ob = w.heap.size + 1 + 1) (hown : w1.ownsRow w0.drew.heap.size 5 1 (.slice a' l.length cap') l.length (l.map u8v)) (hfrm : Frm [] w0.drew w1) :
    ∃ db, Told w (w1.alloc (.cells #[.slice a' l.length cap', .pointer (some ⟨cb, 0, none⟩)] 82)) w1.heap.size cb db l := by
  have hf1 : Frm [] w w1 := hf.drew.trans hfrm (by simp) (by simp)
  have hc1 : Whole w1 cb _ _ := hfrm.undrew.whole hc (by simp)
  have ho1 : Whole w1 ob _ _ := hfrm.undrew.whole ho (by simp)
  have hb := bytes_of_own hown h8
  have hcap : l.length ≤ cap' ∧ cap' ≤ 9223372036854775807 := by
    rcases hown.2 with ⟨h, h0⟩ | ⟨g, cap, cur, hv, _, _, hnc, hm, _⟩
    · injection h with _ _ h; omega
    · injection hv with _ _ h; unfold maxLen at hm; omega
  have hlt := hc1.lt
  have hlo := ho1.lt
  have mk : ∀ db, (∀ x, a' = some x → x.block = db) → w.heap.size ≤ db → db < w1.heap.size → db ≠ cb → Told w (w1.alloc (.cells #[.slice a' l.length cap', .pointer (some ⟨cb, 0, none⟩)] 82)) w1.heap.size cb db l := by
    intro db h1 h2 h3 h4
    exact ⟨hf1.alloc _, ⟨a', cap', Whole.made _ _ _, hc1.alloc _, ((Frm.refl [] w1).alloc _).bytes hb.2.1 (by simp), hcap.1, hcap.2, hb.2.2, h1, by omega, h4⟩, by omega, by omega, h2, by simp; omega⟩
  cases ha : a' with
  | none => exact ⟨ob, by rw [← ha]; exact mk ob (by rw [ha]; intro x hx; cases hx) (by omega) hlo (by omega)⟩
  | some x =>
    have hx := hown.lt x.block (by rw [ha]; rfl)
    have h0 : w.heap.size ≤ w0.heap.size := hf.size
    have h1 : w0.drew.heap.size = w0.heap.size := rfl
    have hc0 := hc.lt
    exact ⟨x.block, by rw [← ha]; exact mk x.block (by rw [ha]; intro y hy; cases hy; rfl) (by omega) hx.2 (by omega)⟩

set_option maxHeartbeats 1000000 in
theorem read_throw (G : FuncId) (cp : Array Value) (a : Option Addr) (n cap : Nat) (l : List Nat) (w : World) (Q : World → Prop) (c : Int) (hl : Bytes w a l) (hn : n = l.length) (hnil : a = none → cap = 0) (hfit : n ≤ 140737488355328)
    (hG : ∀ args w, (callFunc G args).run Tryd.prog w = .ok (.enter G args) w)
    (hby : ∀ w1 rb cb db, Told w w1 rb cb db l → Calls Tryd.prog G (#[.pointer (some ⟨rb, 0, none⟩)] ++ cp) w1 (ByThrow w w1 rb cb c Q)) :
    Calls Tryd.prog 17 #[.slice a n cap, .func (.func G) #[] cp] w (ReadRet w fun w2 c' => Q w2 ∧ c' = c) := by
  have hmf : ∀ (fn : Fn) (first cap : Array Value) (w : World), (Instr.makeFunc fn first cap).run Tryd.prog w = .ok (.func fn first cap) w := fun _ _ _ _ => rfl
  have hq : ∀ (w : World), (binOp .eql 54 (.func (.func G) #[] cp) .nilFunc).run Tryd.prog w = .ok (.bool false) w := by
    intro w; kernel_rfl
  have HB := Lib.hid hby; clear hby
  have HL := Lib.hid hl; clear hl
  have HN := Lib.hid hn; clear hn
  go_enter_defers Tryd.func17, Tryd.ntmps17
  go_wp2
  clear hq
  obtain ⟨w0, hw0⟩ : ∃ w0, w0 = ((w.alloc (Obj.cells #[Value.int IntKind.i64 0] 33)).alloc (Obj.cells #[Value.bool false, Value.int IntKind.i64 0] 79)).alloc (Obj.cells #[Value.pointer (some ⟨w.heap.size + 1, 0, none⟩)] 77) := ⟨_, rfl⟩
  rw [← hw0]
  obtain ⟨eb, heb⟩ : ∃ eb, eb = w.heap.size := ⟨_, rfl⟩
  obtain ⟨cb, hcb⟩ : ∃ cb, cb = w.heap.size + 1 := ⟨_, rfl⟩
  obtain ⟨ob, hob⟩ : ∃ ob, ob = w.heap.size + 1 + 1 := ⟨_, rfl⟩
  have he0 : Whole w0 eb 33 #[.int .i64 0] := by rw [hw0, heb]; exact ((Whole.made w _ _).alloc _).alloc _
  have hc0 : Whole w0 cb 79 #[.bool false, .int .i64 0] := by rw [hw0, hcb]; exact (Whole.made' _ _ (by simp)).alloc _
  have ho0 : Whole w0 ob 77 #[.pointer (some ⟨cb, 0, none⟩)] := by rw [hw0, hob, hcb]; exact Whole.made' _ _ (by simp)
  have hf0 : Frm [] w w0 := by rw [hw0]; exact (((Frm.refl _ _).alloc _).alloc _).alloc _
  rw [← hob, ← hcb, ← heb]
  have hsz : w0.heap.size = w.heap.size + 3 := by rw [hw0]; simp
  clear hw0
  have k0 := ho0.cell 0
  simp at k0
  have hoblt := ho0.lt
  have HE := Lib.hid he0; clear he0
  have HC := Lib.hid hc0; clear hc0
  have HO := Lib.hid ho0; clear ho0
  have HF := Lib.hid hf0; clear hf0
  have E1 := Lib.hid heb; clear heb
  have E2 := Lib.hid hcb; clear hcb
  have E3 := Lib.hid hob; clear hob
  have E4 := Lib.hid hsz; clear hsz
  go_region_held3 (fun w' => w'.cell? ⟨ob, 0, none⟩ = some (.pointer (some ⟨cb, 0, none⟩))) (first | go_keep | (rw [hfrm.cell (by simpa using hoblt) (by simp)]; assumption)) ((go_at_call 31; refine (clone_any a n cap l _ (HF.out.drew.bytes HL.out (by simp)) HN.out hnil hfit).mono ?_; rintro e w1 ⟨a', cap', rfl, hown, hfrm⟩))
  obtain ⟨db, htold⟩ := told_mk HL.out.1 HC.out HO.out HF.out E2.out E3.out hown hfrm
  have ho1 := (hfrm.undrew.whole HO.out (by simp)).alloc (.cells #[.slice a' l.length cap', .pointer (some ⟨cb, 0, none⟩)] 82)
  have he1 := (hfrm.undrew.whole HE.out (by simp)).alloc (.cells #[.slice a' l.length cap', .pointer (some ⟨cb, 0, none⟩)] 82)
  have hne1 : ob < w1.heap.size := Nat.lt_of_lt_of_le HO.out.lt hfrm.undrew.size
  have hne2 : eb < w1.heap.size := Nat.lt_of_lt_of_le HE.out.lt hfrm.undrew.size
  clear hown hfrm
  obtain ⟨W, hW⟩ : ∃ W, W = w1.alloc (Obj.cells #[Value.slice a' l.length cap', Value.pointer (some ⟨cb, 0, none⟩)] 82) := ⟨_, rfl⟩
  rw [← hW] at htold ho1 he1 ⊢
  obtain ⟨rb, hrb⟩ : ∃ rb, rb = w1.heap.size := ⟨_, rfl⟩
  rw [← hrb] at htold hne1 hne2 ⊢
  clear hW hrb
  have HT := Lib.hid htold; clear htold
  have HO1 := Lib.hid ho1; clear ho1
  have HE1 := Lib.hid he1; clear he1
  clear k0 hoblt
  go_wp2_with fail
  refine (HB.out _ _ _ _ HT.out).mono ?_
  rintro e w2 ⟨rfl, S, hQ, hcw, hS, hx⟩
  have hTf := HT.out.frm
  have hlW1 : eb < W.heap.size := HE1.out.lt
  have hlW2 : ob < W.heap.size := HO1.out.lt
  have nS : ∀ y, w.heap.size ≤ y → y < W.heap.size → y ≠ rb → y ≠ cb → y ∉ S := by
    intro y h1 h2 h3 h4 hm
    rcases hx y hm with h | h | h | h <;> omega
  have ho2 := hS.whole HO1.out (nS ob (by have := E3.out; omega) hlW2 (by omega) (by have := E2.out; have := E3.out; omega))
  have he2 := hS.whole HE1.out (nS eb (by have := E1.out; omega) hlW1 (by omega) (by have := E2.out; have := E1.out; omega))
  have hcge : w.heap.size ≤ cb := HT.out.hc
  have hege : w.heap.size ≤ eb := by have := E1.out; omega
  have d1 : eb ≠ ob := by have := E1.out; have := E3.out; omega
  have d2 : eb ≠ cb := by have := E1.out; have := E2.out; omega
  clear nS hTf hlW1 hlW2 hx hS
  refine leaves_cons (f := 32) (args := #[.pointer (some ⟨ob, 0, none⟩), .pointer (some ⟨eb, 0, none⟩)]) (by simp) (by simp [go_sem]) ?_
  refine (d_own ob cb eb c 0 [] _ ho2 hcw he2).mono ?_
  rintro e u' w'' ⟨rfl, rfl, rfl⟩
  have r0 := ((he2.other (p := ⟨cb, 0, none⟩) d2 (.bool true)).put 0 (.int .i64 c)).cell 0
  simp at r0
  have FIN : ReadRet w (fun w2 c' => Q w2 ∧ c' = c) (.returned (.int .i64 c)) ((w2.setCell ⟨cb, 0, none⟩ (.bool true)).setCell ⟨eb, 0, none⟩ (.int .i64 c)) :=
    ⟨w2, c, [eb, cb], rfl, ⟨hQ, rfl⟩, ((Frm.refl _ _).setCell (.inl (by simp)) _).setCell (.inl (by simp)) _, by simp; omega⟩
  simp [Leaves, settle, results, Tryd.results17, go_sem, r0]
  exact FIN

end Go.Proofs.YtahhkffghhgojaaDoor
/- A string's bytes as a list. They speak of no program. -/
namespace Go.Proofs.YtahhkffghhgojaaDoor
open Go.RowKit

/-- A string's bytes. -/
def strL (s : ByteArray) : List Nat := s.data.toList.map UInt8.toNat
theorem strL_length (s : ByteArray) : (strL s).length = s.size := by simp [strL]
theorem strL_lt (s : ByteArray) : ∀ c ∈ strL s, c < 256 := by
  intro c hc
  simp only [strL, List.mem_map] at hc
  obtain ⟨x, _, rfl⟩ := hc
  exact x.toNat_lt
theorem strL_inj {s t : ByteArray} (h : strL s = strL t) : s = t := by
  have h1 := List.map_inj_right (f := UInt8.toNat) (fun _ _ h => UInt8.toNat_inj.1 h) |>.1 h
  exact ByteArray.ext (Array.toList_inj.1 h1)
end Go.Proofs.YtahhkffghhgojaaDoor
/- 'string(b)' of whatever slice of bytes; strings of lists of bytes. They speak of no program. -/
namespace Go.Proofs.YtahhkffghhgojaaDoor
open Go.RowKit

/-- The string of these bytes. -/
def strOf (l : List Nat) : ByteArray := ⟨(l.map fun c => UInt8.ofNat c).toArray⟩
theorem strOf_nums (l : List Nat) : strOfNums (l.map fun c : Nat => (c : Int)) = strOf l := by
  apply ByteArray.ext
  apply Array.toList_inj.1
  rw [strOfNums_data]
  simp [strOf]
theorem strL_strOf (l : List Nat) (h : ∀ c ∈ l, c < 256) : strL (strOf l) = l := by
  simp only [strL, strOf, List.map_map]
  conv => rhs; rw [← List.map_id l]
  apply List.map_congr_left
  intro c hc
  have := h c hc
  simp; omega
theorem strOf_strL (s : ByteArray) : strOf (strL s) = s := strL_inj (strL_strOf _ (strL_lt s))
theorem strOf_size (l : List Nat) : (strOf l).size = l.length := by simp [strOf, ByteArray.size]

theorem run_to_string {P : Program} {w : World} {src dst e : TypeId} (hs : P.underlying src = some (.slice e)) (he : P.underlying e = some (.int .u8)) (hd : P.underlying dst = some .string)
    {a : Option Addr} {n c : Nat} {l : List Nat} (hl : Bytes w a l) (hn : n = l.length) : (convert src dst (.slice a n c)).run P w = .ok (.string (strOf l)) w := by
  subst hn
  cases a with
  | none =>
    have h0 : l = [] := by
      rcases hl.2.2 with h | ⟨b, off, h, _⟩
      · exact h
      · cases h
    subst h0
    rw [run_convert_bytes_nil w src e hs he _ _ dst hd]
    rfl
  | some x =>
    rcases hl.2.2 with h | ⟨b, off, h, hc⟩
    · subst h
      rw [run_convert_bytes_string w src dst e _ _ _ hs he hd, run_bytesToString w x _ _ [] (by simp [loadCells, loadCellsFrom])]
      rfl
    · cases h
      rw [run_convert_bytes_arg w src e hs he b off l.length c (l.map fun c : Nat => (c : Int)) (by simp) (fun i hi => by rw [hc i hi]; simp [hi]) dst hd, strOf_nums]
end Go.Proofs.YtahhkffghhgojaaDoor
/- (For PackReads' own seat.) Contract of Awake (the fixed facts of layer 2): it answers true and writes nothing that was there. -/
namespace Go.Proofs.YtahhkffghhgojaaDoor
open Go.RowKit

/-- A Writer that was just made. -/
theorem Wr.zero (w : World) : Wr (w.alloc (.cells #[.pointer none, .int .i64 0] 70)) w.heap.size w.heap.size [w.heap.size] [] :=
  ⟨by simp, Nat.le_refl _, .inl ⟨rfl, rfl, Whole.made _ _ _⟩⟩
end Go.Proofs.YtahhkffghhgojaaDoor
/- Slices cut out of a slice of bytes: the values written out, and what they read as. They speak of no program. -/
namespace Go.Proofs.YtahhkffghhgojaaDoor
open Go.RowKit

/-- The address of a piece from place lo on. -/
def cutAt (a : Option Addr) (cap lo : Nat) : Option Addr := if cap = lo then a else a.map (·.add lo)

section
variable {P : Program} {t e : TypeId}
theorem run_cut_l (ht : P.underlying t = some (.slice e)) (hz : ∀ w, (Go.sizeOf e).run P w = .ok 1 w) (w : World) (a : Option Addr) (n cap lo : Nat) (l : Int) (hl : l = (lo : Nat)) (h1 : lo ≤ n) (kl : IntKind := .i64) :
    (Instr.slice t (.slice a n cap) (some (.int kl l)) none none).run P w = .ok (.slice (cutAt a cap lo) (n - lo) (cap - lo)) w := by
  subst hl
  have ht' : P.underlying t = some (.slice (P.elem t)) := by simp [Program.elem, ht]
  have he : P.elem t = e := by simp [Program.elem, ht]
  rw [run_slice_l w t _ _ _ ht' kl _ (by omega) (by omega), he, hz]
  simp [Result.andThen, sliced, cutAt]
end
theorem cut_bytes {w : World} {a : Option Addr} {cap : Nat} {l : List Nat} (h : Bytes w a l) (hc : l.length ≤ cap) (lo : Nat) : Bytes w (cutAt a cap lo) (l.drop lo) := by
  unfold cutAt
  by_cases hlo : cap = lo
  · rw [if_pos hlo, List.drop_eq_nil_of_le (by omega)]; exact Bytes.nil _
  · rw [if_neg hlo]; exact h.drop lo
theorem cut_none {a : Option Addr} {cap lo : Nat} (h : a = none → cap = 0) (hc : cutAt a cap lo = none) : cap - lo = 0 := by
  unfold cutAt at hc
  by_cases hlo : cap = lo
  · omega
  · rw [if_neg hlo] at hc
    have := h (by simpa using hc)
    omega
theorem cut_block {a : Option Addr} {cap lo : Nat} {x : Addr} (hc : cutAt a cap lo = some x) : ∃ y, a = some y ∧ x.block = y.block := by
  unfold cutAt at hc
  by_cases hlo : cap = lo
  · rw [if_pos hlo] at hc; exact ⟨x, hc, rfl⟩
  · rw [if_neg hlo] at hc
    cases a with
    | none => cases hc
    | some y =>
      simp at hc
      subst hc
      exact ⟨y, rfl, by unfold Addr.add; split <;> rfl⟩
end Go.Proofs.YtahhkffghhgojaaDoor
/- (For PackReads' own seat.) Contracts of the reference's Reader, with faults. -/
namespace Go.Proofs.YtahhkffghhgojaaDoor
open Go.RowKit

theorem size_byte (w : World) : (Go.sizeOf 5).run Tryd.prog w = .ok 1 w := by kernel_rfl
/-- The reference's reader at block rb has the bytes l left, and no fault. -/
structure RR (w : World) (rb : Nat) (l : List Nat) (a : Option Addr) (cap : Nat) : Prop where
  whole : Whole w rb 44 #[.slice a l.length cap, .int .i64 0]
  bytes : Bytes w a l
  le : l.length ≤ cap
  nil : a = none → cap = 0
  apart : l ≠ [] → ∀ x, a = some x → x.block ≠ rb

theorem val_take_succ (l : List Nat) (i : Nat) (h : i < l.length) : val (l.take (i + 1)) = val (l.take i) * 256 + l.getD i 0 := by
  rw [take_snoc_getD h, val_snoc]
theorem val_take_lt8 {l : List Nat} (h8 : ∀ c ∈ l, c < 256) (i : Nat) (h : i < 8) : val (l.take i) < 72057594037927936 := by
  have h1 := val_lt (l.take i) (fun c hc => h8 c (List.mem_of_mem_take hc))
  have h2 : (l.take i).length ≤ 7 := by rw [List.length_take]; omega
  exact Nat.lt_of_lt_of_le h1 (Nat.le_trans (Nat.pow_le_pow_right (by omega) h2) (by decide))

/-- Behind Number: the reader is further on. -/
theorem RR.next {w : World} {rb : Nat} {l : List Nat} {a : Option Addr} {cap : Nat} (h : RR w rb l a cap) (k : Nat) :
    RR (w.setCell ⟨rb, 0, none⟩ (.slice (cutAt a cap k) (l.length - k) (cap - k))) rb (l.drop k) (cutAt a cap k) (cap - k) := by
  have hf : Frm [rb] w (w.setCell ⟨rb, 0, none⟩ (.slice (cutAt a cap k) (l.length - k) (cap - k))) := (Frm.refl _ _).setCell (.inl (by simp)) _
  have hap : l.drop k ≠ [] → ∀ x, cutAt a cap k = some x → x.block ≠ rb := fun hne x hx => by
    obtain ⟨y, hy, hb⟩ := cut_block hx
    rw [hb]; exact h.apart (fun h0 => hne (by rw [h0]; simp)) y hy
  refine ⟨?_, hf.bytes' (cut_bytes h.bytes h.le k) (fun hne x hx => by simpa using hap hne x hx), by simp; have := h.le; omega, fun hn => cut_none h.nil hn, hap⟩
  simpa using h.whole.put 0 (.slice (cutAt a cap k) (l.length - k) (cap - k))

/-- What Number hands back. -/
def Numbered (w : World) (rb : Nat) (l : List Nat) (a : Option Addr) (cap k : Nat) (e : Ending) (w' : World) : Prop :=
  e = .returned (.int .u64 (val (l.take k) : Nat)) ∧ w' = w.setCell ⟨rb, 0, none⟩ (.slice (cutAt a cap k) (l.length - k) (cap - k))

set_option maxHeartbeats 1000000 in
theorem ref_number_ok {w : World} {rb : Nat} {l : List Nat} {a : Option Addr} {cap : Nat} (k : Nat) (h : RR w rb l a cap) (hk : k ≤ l.length) (hk8 : k ≤ 8) :
    Calls Tryd.prog 27 #[.pointer (some ⟨rb, 0, none⟩), .int .i64 k] w (Numbered w rb l a cap k) := by
  have c0 := h.whole.cell 0
  have c1 := h.whole.cell 1
  have f0 := h.whole.free 0
  simp at c0 c1
  have hll := h.bytes.2.1
  have hcut := fun (w : World) => run_cut_l (P := Tryd.prog) Tryd.underlying22 size_byte w a l.length cap k (k : Int) rfl hk
  obtain ⟨a2, ha2⟩ : ∃ a2, a2 = cutAt a cap k := ⟨_, rfl⟩
  obtain ⟨n2, hn2⟩ : ∃ n2, n2 = l.length - k := ⟨_, rfl⟩
  obtain ⟨c2, hc2⟩ : ∃ c2, c2 = cap - k := ⟨_, rfl⟩
  rw [← ha2, ← hn2, ← hc2] at hcut
  have E1 := Lib.hid ha2; clear ha2
  have E2 := Lib.hid hn2; clear hn2
  have E3 := Lib.hid hc2; clear hc2
  have HB := Lib.hid h.bytes
  have HLE := h.le
  clear h
  go_enter Tryd.func27, Tryd.ntmps27
  go_wp2
  go_loop [5, 6] (fun n i => ∃ j : Nat, j ≤ k ∧ i = .int .i64 j ∧ n = .int .u64 (val (l.take j) : Nat)) (fun _ i => k - (intOf i).toNat)
  case atStart => exact ⟨0, Nat.zero_le _, rfl, rfl⟩
  case round =>
    obtain ⟨j, hj, rfl, rfl⟩ := hrel
    by_cases hlt : j < k
    · have hx := val_take_lt8 HB.out.1 j (by omega)
      have hs := val_take_succ l j (by omega)
      have hc8 := getD_lt HB.out.1 j
      obtain ⟨b, off, rfl, hcl⟩ : ∃ b off, a = some ⟨b, off, none⟩ ∧ w.cell? ⟨b, off + j, none⟩ = some (.int .u8 (l.getD j 0 : Nat)) := by
        rcases HB.out.2.2 with h | ⟨b, off, h, hh⟩
        · rw [h] at hk; simp at hk; omega
        · exact ⟨b, off, h, hh j (by omega)⟩
      obtain ⟨x, hx'⟩ : ∃ x, x = val (l.take j) := ⟨_, rfl⟩
      obtain ⟨c, hc'⟩ : ∃ c, c = l.getD j 0 := ⟨_, rfl⟩
      rw [← hx', ← hc'] at hs
      rw [← hx'] at hx ⊢
      rw [← hc'] at hc8 hcl
      have HX := Lib.hid hx'; clear hx'
      have HC := Lib.hid hc'; clear hc'
      have HS := Lib.hid hs; clear hs
      have hlj : (j : Int) < (l.length : Int) := by omega
      go_wp2
      go_round
      case rel => exact ⟨j + 1, by omega, by go_num, same_int (by rw [HS.out]; omega)⟩
      case measure => simp [intOf]; omega
    · obtain rfl : j = k := by omega
      go_wp2
      go_ret
      exact ⟨rfl, by rw [E1.out, E2.out, E3.out]⟩
end Go.Proofs.YtahhkffghhgojaaDoor
/- (For PackReads' own seat.) Contracts of the reference's Reader with its faults: Number, Bytes, Fail, End. -/
namespace Go.Proofs.YtahhkffghhgojaaDoor
open Go.RowKit

/-- The reference's reader has the bytes l left, which lie in blocks below B, and no fault. -/
def RQ (w : World) (qb : Nat) (l : List Nat) (B : Nat) : Prop := ∃ a cap, RR w qb l a cap ∧ (l ≠ [] → ∀ x, a = some x → x.block < B)
/-- It has a fault. -/
def RFault (w : World) (qb : Nat) (c : Int) : Prop := ∃ v, Whole w qb 44 #[v, .int .i64 c]
theorem RFault.keep {w w' : World} {qb : Nat} {c : Int} {S : List Nat} (h : RFault w qb c) (hf : Frm S w w') (hq : qb ∉ S) : RFault w' qb c := h.elim fun v hv => ⟨v, hf.whole hv hq⟩
theorem RQ.keep {w w' : World} {qb : Nat} {l : List Nat} {B : Nat} {S : List Nat} (h : RQ w qb l B) (hf : Frm S w w') (hq : qb ∉ S) (hB : ∀ x ∈ S, B ≤ x) : RQ w' qb l B := by
  obtain ⟨a, cap, h, hb⟩ := h
  exact ⟨a, cap, ⟨hf.whole h.whole hq, hf.bytes' h.bytes (fun hne x hx hm => by have := hb hne x hx; have := hB _ hm; omega), h.le, h.nil, h.apart⟩, hb⟩
theorem RQ.h8 {w : World} {qb : Nat} {l : List Nat} {B : Nat} (h : RQ w qb l B) : ∀ c ∈ l, c < 256 := by obtain ⟨a, cap, h, _⟩ := h; exact h.bytes.1
theorem RQ.fault {w : World} {qb : Nat} {l : List Nat} {B : Nat} (h : RQ w qb l B) (c : Int) : RFault (w.setCell ⟨qb, 1, none⟩ (.int .i64 c)) qb c ∧ Frm [qb] w (w.setCell ⟨qb, 1, none⟩ (.int .i64 c)) := by
  obtain ⟨a, cap, h, _⟩ := h
  exact ⟨⟨_, by simpa using h.whole.put 1 (.int .i64 c)⟩, (Frm.refl _ _).setCell (.inl (by simp)) _⟩

def Faulted (w : World) (qb : Nat) (v : Value) (c : Int) (e : Ending) (w' : World) : Prop := e = .returned v ∧ RFault w' qb c ∧ Frm [qb] w w'

set_option maxHeartbeats 1000000 in
theorem rqnum_short {w : World} {qb : Nat} {l : List Nat} {B : Nat} (k : Nat) (h : RQ w qb l B) (hk : l.length < k) :
    Calls Tryd.prog 27 #[.pointer (some ⟨qb, 0, none⟩), .int .i64 k] w (Faulted w qb (.int .u64 0) 4) := by
  have FA := Lib.hid (h.fault 4)
  obtain ⟨a, cap, h, _⟩ := h
  have c0 := h.whole.cell 0
  have c1 := h.whole.cell 1
  have f1 := h.whole.free 1
  simp at c0 c1
  have hlt : (l.length : Int) < (k : Int) := by omega
  clear h hk
  go_enter Tryd.func27, Tryd.ntmps27
  go_wp2
  go_ret
  exact ⟨rfl, FA.out⟩

def Numb (w : World) (qb : Nat) (l : List Nat) (B k : Nat) (e : Ending) (w' : World) : Prop := e = .returned (.int .u64 (val (l.take k) : Nat)) ∧ RQ w' qb (l.drop k) B ∧ Frm [qb] w w'
theorem rqnum_ok {w : World} {qb : Nat} {l : List Nat} {B : Nat} (k : Nat) (h : RQ w qb l B) (hk : k ≤ l.length) (hk8 : k ≤ 8) :
    Calls Tryd.prog 27 #[.pointer (some ⟨qb, 0, none⟩), .int .i64 k] w (Numb w qb l B k) := by
  obtain ⟨a, cap, h, hb⟩ := h
  refine (ref_number_ok k h hk hk8).mono ?_
  rintro e w' ⟨rfl, rfl⟩
  exact ⟨rfl, ⟨_, _, h.next k, fun hne x hx => by obtain ⟨y, hy, hxy⟩ := cut_block hx; rw [hxy]; exact hb (fun h0 => hne (by rw [h0]; simp)) y hy⟩, (Frm.refl _ _).setCell (.inl (by simp)) _⟩

theorem rq_fail {w : World} {qb : Nat} {l : List Nat} {B : Nat} (c : Nat) (h : RQ w qb l B) :
    Calls Tryd.prog 29 #[.pointer (some ⟨qb, 0, none⟩), .int .i64 c] w (fun e w' => e = .returned (.tuple #[]) ∧ w' = w.setCell ⟨qb, 1, none⟩ (.int .i64 c)) := by
  obtain ⟨a, cap, h, _⟩ := h
  have c1 := h.whole.cell 1
  have f1 := h.whole.free 1
  simp at c1
  clear h
  go_enter Tryd.func29, Tryd.ntmps29
  go_wp2
  go_end0
  exact ⟨rfl, rfl⟩

theorem rq_end_fault {w : World} {qb : Nat} (c : Nat) (h : RFault w qb c) (hc : c ≠ 0) :
    Calls Tryd.prog 14 #[.pointer (some ⟨qb, 0, none⟩)] w (fun e w' => e = .returned (.int .i64 c) ∧ w' = w) := by
  obtain ⟨v, h⟩ := h
  have c1 := h.cell 1
  simp at c1
  have hne : ((c : Int) == 0) = false := by simp; omega
  clear h hc
  go_enter Tryd.func14, Tryd.ntmps14
  go_wp2
  go_ret
  exact ⟨rfl, rfl⟩
theorem rq_end_ok {w : World} {qb : Nat} {l : List Nat} {B : Nat} (h : RQ w qb l B) (c : Int) (hc : c = if l = [] then 0 else 5) :
    Calls Tryd.prog 14 #[.pointer (some ⟨qb, 0, none⟩)] w (fun e w' => e = .returned (.int .i64 c) ∧ Frm [qb] w w') := by
  obtain ⟨a, cap, h, _⟩ := h
  have c0 := h.whole.cell 0
  have c1 := h.whole.cell 1
  have f1 := h.whole.free 1
  simp at c0 c1
  by_cases hl : l = []
  · rw [if_pos hl] at hc
    subst hl hc
    clear h
    go_enter Tryd.func14, Tryd.ntmps14
    go_wp2
    go_ret
    exact ⟨rfl, Frm.refl _ _⟩
  · rw [if_neg hl] at hc
    subst hc
    have hlt : (0 : Int) < (l.length : Int) := by have := List.length_pos_iff.2 hl; omega
    clear h hl
    go_enter Tryd.func14, Tryd.ntmps14
    go_wp2
    go_ret
    exact ⟨rfl, (Frm.refl _ _).setCell (.inl (by simp)) _⟩

theorem run_cut_h (w : World) (a : Option Addr) (n cap hi : Nat) (h : Int) (hh : h = (hi : Nat)) (h2 : hi ≤ cap) (k : IntKind) :
    (Instr.slice 22 (.slice a n cap) none (some (.int k h)) none).run Tryd.prog w = .ok (.slice (cutAt a cap 0) hi cap) w := by
  subst hh
  have ht' : Tryd.prog.underlying 22 = some (.slice (Tryd.prog.elem 22)) := by simp [Program.elem, Tryd.underlying22]
  have he : Tryd.prog.elem 22 = 5 := by simp [Program.elem, Tryd.underlying22]
  rw [run_slice_h w _ _ _ _ ht' k _ (by omega) (by omega), he, size_byte]
  simp [Result.andThen, sliced, cutAt]

set_option maxHeartbeats 1000000 in
theorem rqbytes_short {w : World} {qb : Nat} {l : List Nat} {B : Nat} (h : RQ w qb l B) (hl : l.length < 4) :
    Calls Tryd.prog 47 #[.pointer (some ⟨qb, 0, none⟩)] w (Faulted w qb (.slice none 0 0) 4) := by
  have HN := Lib.hid (rqnum_short 4 h hl)
  clear h hl
  go_enter Tryd.func47, Tryd.ntmps47
  go_wp2_with fail
  refine HN.out.mono ?_
  rintro e w1 ⟨rfl, ⟨v, hv⟩, hf⟩
  have c1 := hv.cell 1
  simp at c1
  have FA : Hid (RFault w1 qb 4) := ⟨v, hv⟩
  have F := Lib.hid hf
  clear hv hf
  go_wp2
  go_ret
  exact ⟨rfl, FA.out, F.out⟩

set_option maxHeartbeats 1000000 in
theorem rqbytes_less {w : World} {qb : Nat} {l : List Nat} {B : Nat} (h : RQ w qb l B) (hl : 4 ≤ l.length) (hn : l.length - 4 < val (l.take 4)) :
    Calls Tryd.prog 47 #[.pointer (some ⟨qb, 0, none⟩)] w (Faulted w qb (.slice none 0 0) 4) := by
  have HN := Lib.hid (rqnum_ok 4 h hl (by omega))
  have hfit : l.length ≤ 9223372036854775807 := by obtain ⟨_, _, h, _⟩ := h; exact h.bytes.2.1
  unfold Numb at HN
  obtain ⟨z, hz⟩ : ∃ z, z = val (l.take 4) := ⟨_, rfl⟩
  rw [← hz] at HN hn
  clear h hz
  go_enter Tryd.func47, Tryd.ntmps47
  go_wp2_with fail
  refine HN.out.mono ?_
  rintro e w1 ⟨rfl, hq, hf⟩
  have FA := Lib.hid (hq.fault 4)
  obtain ⟨a, cap, hq, _⟩ := hq
  have c0 := hq.whole.cell 0
  have c1 := hq.whole.cell 1
  have f1 := hq.whole.free 1
  simp only [List.length_drop] at c0
  simp at c0 c1
  obtain ⟨m, hm⟩ : ∃ m, m = l.length - 4 := ⟨_, rfl⟩
  rw [← hm] at c0 hn
  have hmz : (m : Int) < (z : Int) := by omega
  have hm63 : m ≤ 9223372036854775807 := by omega
  have F := Lib.hid hf
  clear hq hf hm hn hfit hl
  go_wp2
  go_ret
  exact ⟨rfl, FA.out.1, F.out.trans FA.out.2 (by simp) (by simp)⟩

/-- What Bytes hands back. -/
def RQBytes (w : World) (qb : Nat) (l : List Nat) (B n : Nat) (e : Ending) (w' : World) : Prop :=
  ∃ a cap, e = .returned (.slice a n cap) ∧ Bytes w' a ((l.drop 4).take n) ∧ n ≤ cap ∧ ((l.drop 4).take n ≠ [] → ∀ x, a = some x → x.block < B) ∧ RQ w' qb (l.drop (4 + n)) B ∧ Frm [qb] w w'
set_option maxHeartbeats 2000000 in
theorem rqbytes_ok {w : World} {qb : Nat} {l : List Nat} {B : Nat} (h : RQ w qb l B) (hqB : B ≤ qb) (hl : 4 ≤ l.length) (z : Nat) (hz : val (l.take 4) = z) (hn : z ≤ l.length - 4) :
    Calls Tryd.prog 47 #[.pointer (some ⟨qb, 0, none⟩)] w (RQBytes w qb l B z) := by
  have HN := Lib.hid (rqnum_ok 4 h hl (by omega))
  have hfit : l.length ≤ 9223372036854775807 := by obtain ⟨_, _, h, _⟩ := h; exact h.bytes.2.1
  unfold Numb at HN
  rw [hz] at HN
  clear h hz
  go_enter Tryd.func47, Tryd.ntmps47
  go_wp2_with fail
  refine HN.out.mono ?_
  rintro e w1 ⟨rfl, hq, hf⟩
  obtain ⟨a, cap, hq, hb⟩ := hq
  have c0 := hq.whole.cell 0
  have c1 := hq.whole.cell 1
  have f0 := hq.whole.free 0
  simp only [List.length_drop] at c0
  simp at c0 c1
  obtain ⟨m, hm⟩ : ∃ m, m = l.length - 4 := ⟨_, rfl⟩
  rw [← hm] at c0 hn
  have hmz : ¬ (m : Int) < (z : Int) := by omega
  have hm63 : m ≤ 9223372036854775807 := by omega
  have hmc : m ≤ cap := by have := hq.le; simp at this; omega
  have cH := fun W => run_cut_h W a m cap z (z : Int) rfl (by omega) .u64
  have cL := fun (W : World) => run_cut_l (P := Tryd.prog) Tryd.underlying22 size_byte W a m cap z (z : Int) rfl (by omega) .u64
  have NX := Lib.hid (hq.next z)
  simp only [List.length_drop, ← hm] at NX
  have BH : Hid (Bytes w1 (cutAt a cap 0) ((l.drop 4).take z)) := by have := (cut_bytes hq.bytes hq.le 0).take z; rw [List.drop_zero] at this; exact this
  have BB := Lib.hid hb
  obtain ⟨a1, ha1⟩ : ∃ a1, a1 = cutAt a cap 0 := ⟨_, rfl⟩
  obtain ⟨a2, ha2⟩ : ∃ a2, a2 = cutAt a cap z := ⟨_, rfl⟩
  obtain ⟨m2, hm2⟩ : ∃ m2, m2 = m - z := ⟨_, rfl⟩
  obtain ⟨p2, hp2⟩ : ∃ p2, p2 = cap - z := ⟨_, rfl⟩
  rw [← ha1] at cH BH
  rw [← ha2, ← hm2, ← hp2] at cL NX
  have A1 := Lib.hid ha1
  have A2 := Lib.hid ha2
  have F := Lib.hid hf
  have HQB := Lib.hid hqB
  clear hq hf hm hb ha1 ha2 hm2 hp2 hl hqB
  go_wp2
  go_ret
  refine ⟨a1, cap, rfl, ?_, by omega, ?_, ⟨a2, p2, ?_, ?_⟩, F.out.trans ((Frm.refl [qb] _).setCell (.inl (by simp)) _) (by simp) (by simp)⟩
  · refine ((Frm.refl [qb] w1).setCell (p := ⟨qb, 0, none⟩) (.inl (by simp)) _).bytes' BH.out (fun hne x hx hm => ?_)
    rw [A1.out] at hx
    obtain ⟨y, hy, hxy⟩ := cut_block hx
    have := BB.out (fun h0 => hne (by rw [h0]; simp)) y hy
    have := HQB.out
    simp at hm
    omega
  · intro hne x hx
    rw [A1.out] at hx
    obtain ⟨y, hy, hxy⟩ := cut_block hx
    rw [hxy]; exact BB.out (fun h0 => hne (by rw [h0]; simp)) y hy
  · have := NX.out
    rw [List.drop_drop] at this
    exact this
  · intro hne x hx
    rw [A2.out] at hx
    obtain ⟨y, hy, hxy⟩ := cut_block hx
    rw [hxy]; exact BB.out (fun h0 => hne (by rw [← List.drop_drop, h0]; simp)) y hy
end Go.Proofs.YtahhkffghhgojaaDoor
/- (For PackReads' own seat.) Contract of unicode/utf8.word over bytes: the number that the first eight bytes spell. -/
namespace Go.Proofs.YtahhkffghhgojaaDoor
open Go.RowKit

/-- The number that the first eight bytes spell, the least first. -/
def W8 (l : List Nat) : Nat := l.getD 0 0 + l.getD 1 0 * 256 + l.getD 2 0 * 65536 + l.getD 3 0 * 16777216 + l.getD 4 0 * 4294967296 + l.getD 5 0 * 1099511627776 + l.getD 6 0 * 281474976710656 + l.getD 7 0 * 72057594037927936
theorem W8_lt {l : List Nat} (h : ∀ c ∈ l, c < 256) : W8 l < 18446744073709551616 := by
  have h0 := getD_lt h 0; have h1 := getD_lt h 1; have h2 := getD_lt h 2; have h3 := getD_lt h 3
  have h4 := getD_lt h 4; have h5 := getD_lt h 5; have h6 := getD_lt h 6; have h7 := getD_lt h 7
  unfold W8; omega

set_option maxHeartbeats 8000000 in
set_option maxRecDepth 100000 in
theorem word_any {w : World} {a : Option Addr} {l : List Nat} {n cap : Nat} (h : Bytes w a l) (hn : n = l.length) (h8 : 8 ≤ n) :
    Calls Tryd.prog 62 #[.slice a n cap] w fun e w' => e = .returned (.int .u64 (W8 l : Nat)) ∧ ∃ q, w' = w.drewN q := by
  obtain ⟨b, off, rfl, hc⟩ : ∃ b off, a = some ⟨b, off, none⟩ ∧ ∀ i, i < l.length → w.cell? ⟨b, off + i, none⟩ = some (.int .u8 (l.getD i 0 : Nat)) := by
    rcases h.2.2 with h0 | h0
    · rw [h0] at hn; simp at hn; omega
    · exact h0
  have k0 := hc 0 (by omega); have k1 := hc 1 (by omega); have k2 := hc 2 (by omega); have k3 := hc 3 (by omega)
  have k4 := hc 4 (by omega); have k5 := hc 5 (by omega); have k6 := hc 6 (by omega); have k7 := hc 7 (by omega)
  rw [Nat.add_zero] at k0
  have e0 := getD_lt h.1 0; have e1 := getD_lt h.1 1; have e2 := getD_lt h.1 2; have e3 := getD_lt h.1 3
  have e4 := getD_lt h.1 4; have e5 := getD_lt h.1 5; have e6 := getD_lt h.1 6; have e7 := getD_lt h.1 7
  unfold W8
  obtain ⟨x0, hx0⟩ : ∃ x, x = l.getD 0 0 := ⟨_, rfl⟩
  obtain ⟨x1, hx1⟩ : ∃ x, x = l.getD 1 0 := ⟨_, rfl⟩
  obtain ⟨x2, hx2⟩ : ∃ x, x = l.getD 2 0 := ⟨_, rfl⟩
  obtain ⟨x3, hx3⟩ : ∃ x, x = l.getD 3 0 := ⟨_, rfl⟩
  obtain ⟨x4, hx4⟩ : ∃ x, x = l.getD 4 0 := ⟨_, rfl⟩
  obtain ⟨x5, hx5⟩ : ∃ x, x = l.getD 5 0 := ⟨_, rfl⟩
  obtain ⟨x6, hx6⟩ : ∃ x, x = l.getD 6 0 := ⟨_, rfl⟩
  obtain ⟨x7, hx7⟩ : ∃ x, x = l.getD 7 0 := ⟨_, rfl⟩
  rw [← hx0] at k0 e0; rw [← hx1] at k1 e1; rw [← hx2] at k2 e2; rw [← hx3] at k3 e3
  rw [← hx4] at k4 e4; rw [← hx5] at k5 e5; rw [← hx6] at k6 e6; rw [← hx7] at k7 e7
  rw [← hx0, ← hx1, ← hx2, ← hx3, ← hx4, ← hx5, ← hx6, ← hx7]
  clear hx0 hx1 hx2 hx3 hx4 hx5 hx6 hx7 hc h
  have q0 : (0 : Int) < (n : Int) := by omega
  have q1 : (1 : Int) < (n : Int) := by omega
  have q2 : (2 : Int) < (n : Int) := by omega
  have q3 : (3 : Int) < (n : Int) := by omega
  have q4 : (4 : Int) < (n : Int) := by omega
  have q5 : (5 : Int) < (n : Int) := by omega
  have q6 : (6 : Int) < (n : Int) := by omega
  have q7 : (7 : Int) < (n : Int) := by omega
  have hv : ((x0 + x1 * 256 + x2 * 65536 + x3 * 16777216 + x4 * 4294967296 + x5 * 1099511627776 + x6 * 281474976710656 + x7 * 72057594037927936 : Nat) : Int) = (x0 : Int) + (x1 : Int) * 256 + (x2 : Int) * 65536 + (x3 : Int) * 16777216 + (x4 : Int) * 4294967296 + (x5 : Int) * 1099511627776 + (x6 : Int) * 281474976710656 + (x7 : Int) * 72057594037927936 := by omega
  have HV := Lib.hid hv
  have HN := Lib.hid hn
  clear hv hn h8
  go_enter Tryd.func62, Tryd.ntmps62
  go_wp2
  go_quiet (fail)
  go_wp2
  go_ret
  refine ⟨?_, _, rfl⟩
  rw [HV.out]
  simp (disch := omega) only [u64_or8, u64_or16, u64_or24, u64_or32, u64_or40, u64_or48, u64_or56]
  rfl
end Go.Proofs.YtahhkffghhgojaaDoor
/- (For PackReads' own seat.) unicode/utf8.Valid over bytes: what it answers hangs on the bytes alone. Its steps, one by one, as a function of what is left; the walk against them. -/
namespace Go.Proofs.YtahhkffghhgojaaDoor
open Go.RowKit

/-- One step of utf8.Valid, of what is left: whether it is in the loop of 32 bytes a round. -/
def vT (u : List Nat) : (Bool × List Nat) ⊕ Bool := if 32 < u.length ∧ ((W8 u ||| W8 (u.drop 8)) ||| (W8 (u.drop 16) ||| W8 (u.drop 24))) &&& 9259542123273814144 = 0 then .inl (true, u.drop 32) else .inl (false, u)
def vF (l : List Nat) : (Bool × List Nat) ⊕ Bool :=
    if l.length = 0 then .inr true else
    if l.getD 0 0 < 128 then
      if 8 < (l.drop 1).length ∧ W8 (l.drop 1) &&& 9259542123273814144 = 0 then
        if 16 < ((l.drop 1).drop 8).length ∧ (W8 ((l.drop 1).drop 8) ||| W8 (((l.drop 1).drop 8).drop 8)) &&& 9259542123273814144 = 0 then .inl (true, ((l.drop 1).drop 8).drop 16)
        else .inl (false, (l.drop 1).drop 8)
      else .inl (false, l.drop 1)
    else if Lib.firstT (l.getD 0 0) % 8 = 2 then
      if l.length < 2 ∨ l.getD 1 0 < Lib.accLo (Lib.firstT (l.getD 0 0) / 16) ∨ Lib.accHi (Lib.firstT (l.getD 0 0) / 16) < l.getD 1 0 then .inr false else .inl (false, l.drop 2)
    else if Lib.firstT (l.getD 0 0) % 8 = 3 then
      if l.length < 3 ∨ l.getD 1 0 < Lib.accLo (Lib.firstT (l.getD 0 0) / 16) ∨ Lib.accHi (Lib.firstT (l.getD 0 0) / 16) < l.getD 1 0 ∨ l.getD 2 0 < 128 ∨ 191 < l.getD 2 0 then .inr false else .inl (false, l.drop 3)
    else if Lib.firstT (l.getD 0 0) % 8 = 4 then
      if l.length < 4 ∨ l.getD 1 0 < Lib.accLo (Lib.firstT (l.getD 0 0) / 16) ∨ Lib.accHi (Lib.firstT (l.getD 0 0) / 16) < l.getD 1 0 ∨ l.getD 2 0 < 128 ∨ 191 < l.getD 2 0 ∨ l.getD 3 0 < 128 ∨ 191 < l.getD 3 0 then .inr false else .inl (false, l.drop 4)
    else .inr false
def vstep (s : Bool × List Nat) : (Bool × List Nat) ⊕ Bool := match s with
  | (true, u) => vT u
  | (false, l) => vF l
/-- What the steps come to. -/
inductive Val : Bool × List Nat → Bool → Prop where
  | done {s : Bool × List Nat} {b : Bool} : vstep s = .inr b → Val s b
  | next {s s' : Bool × List Nat} {b : Bool} : vstep s = .inl s' → Val s' b → Val s b
theorem Val.one {s : Bool × List Nat} {b b' : Bool} (h : Val s b) (h' : Val s b') : b = b' := by
  induction h with
  | done e => cases h' with
    | done e' => rw [e] at e'; injection e'
    | next e' _ => rw [e] at e'; cases e'
  | next e _ ih => cases h' with
    | done e' => rw [e] at e'; cases e'
    | next e' h2 => rw [e] at e'; injection e' with e'; subst e'; exact ih h2

/-- A piece from place k on. -/
theorem cut_pack {wr : World} {a : Option Addr} {n cap : Nat} {c : List Nat} (hb : Bytes wr a c) (hn : n = c.length) (hc : n ≤ cap) (k : Nat) (i : Int) (hi : i = (k : Nat)) (hk : k ≤ n) :
    ∃ a1 n1 k1, (∀ W, (Instr.slice 22 (.slice a n cap) (some (.int .i64 i)) none none).run Tryd.prog W = .ok (.slice a1 n1 k1) W) ∧ Bytes wr a1 (c.drop k) ∧ n1 = (c.drop k).length ∧ n1 ≤ k1 ∧ n1 + k = n :=
  ⟨_, _, _, fun W => run_cut_l Tryd.underlying22 size_byte W a n cap k i hi hk, cut_bytes hb (by omega) k, by rw [List.length_drop, hn], by omega, by omega⟩
theorem run_cut_same (W : World) (a : Option Addr) (n cap : Nat) (hc : n ≤ cap) :
    (Instr.slice 22 (.slice a n cap) none (some (.int .i64 (n : Nat))) (some (.int .i64 (n : Nat)))).run Tryd.prog W = .ok (.slice (cutAt a n 0) n n) W := by
  have ht' : Tryd.prog.underlying 22 = some (.slice (Tryd.prog.elem 22)) := by simp [Program.elem, Tryd.underlying22]
  have he : Tryd.prog.elem 22 = 5 := by simp [Program.elem, Tryd.underlying22]
  rw [run_slice_hm W _ _ _ _ ht' .i64 .i64 _ _ (by omega) (by omega) (by omega), he, size_byte]
  simp [Result.andThen, sliced, cutAt]
theorem Bytes.drewN {w : World} {a : Option Addr} {l : List Nat} (h : Bytes w a l) (q : Nat) : Bytes (w.drewN q) a l := ((Frm.refl [] w).drewN q).bytes h (by simp)
theorem frm_at {w w' : World} {S : List Nat} {a : Addr} {v : Value} (hf : Frm S w w') (h : w.cell? a = some v) (hn : a.block ∉ S) : w'.cell? a = some v := (hf.cell (block_lt_of_cell h) hn).trans h
theorem frm_tr {a b c : World} (h : Frm [] a b) (k : Frm [] b c) : Frm [] a c := h.trans k (by simp) (by simp)

set_option maxRecDepth 100000 in
theorem and7 : ∀ X : Fin 256, bits .and .u8 ((X.val : Nat) : Int) 7 = ((X.val % 8 : Nat) : Int) := by decide
/-- At the loops' heads. -/
def VRel (w : World) (l : List Nat) (m : Bool) (gk : Nat) (s0 : Value) (wx : World) : Prop :=
  ∃ a n cap c, s0 = .slice a n cap ∧ Bytes wx a c ∧ n = c.length ∧ n ≤ cap ∧ n ≤ 140737488355328 ∧ (∀ b, Val (m, c) b → Val (false, l) b) ∧ n < gk ∧ Frm [] w wx
def VRes (w : World) (l : List Nat) (e : Ending) (w' : World) : Prop := ∃ b, e = .returned (.bool b) ∧ Val (false, l) b ∧ Frm [] w w'

set_option maxHeartbeats 16000000 in
set_option maxRecDepth 1000000 in
theorem valid_any {w : World} {a : Option Addr} {l : List Nat} {n cap : Nat} (h : Bytes w a l) (hn : n = l.length) (hc : n ≤ cap) (hfit : n ≤ 140737488355328) (hT : Lib.Utf8Tabs 0 1 w) :
    Calls Tryd.prog 48 #[.slice a n cap] w (VRes w l) := by
  have cS := fun W => run_cut_same W a n cap hc
  have B0 : Hid (Bytes w (cutAt a n 0) l) := by have := cut_bytes h (cap := n) (by omega) 0; rw [List.drop_zero] at this; exact this
  have HN := Lib.hid hn
  have HT := Lib.hid hT
  clear h hn hT
  go_enter Tryd.func48, Tryd.ntmps48
  go_wp2
  clear cS
  go_loopg [0] (n + 1) (fun gk s0 wx => VRel w l false gk s0 wx)
  case atStart => exact ⟨cutAt a n 0, n, n, l, rfl, B0.out, HN.out, Nat.le_refl _, hfit, fun b hb => hb, Nat.lt_succ_self _, Frm.refl _ _⟩
  case round =>
    clear B0 HN hc hfit
    obtain ⟨a, n, cap, c, rfl, hb, hn, hc, hfit, hJ, hgk, hf⟩ := hrel
    have F := Lib.hid hf
    have J := Lib.hid hJ
    have B := Lib.hid hb
    have HN := Lib.hid hn
    have HT' : Hid (Lib.Utf8Tabs 0 1 wr) := ⟨fun x hx => frm_at hf (HT.out.1 x hx) (by simp), fun i hi => ⟨frm_at hf (HT.out.2 i hi).1 (by simp), frm_at hf (HT.out.2 i hi).2 (by simp)⟩⟩
    clear hJ hb hn hf HT
    by_cases h0 : 0 < n
    · obtain ⟨g', rfl⟩ : ∃ g', gk = g' + 1 := ⟨gk - 1, by omega⟩
      have h0z : (0 : Int) < (n : Int) := by omega
      obtain ⟨b, off, rfl, hcl⟩ : ∃ b off, a = some ⟨b, off, none⟩ ∧ ∀ i, i < c.length → wr.cell? ⟨b, off + i, none⟩ = some (.int .u8 (c.getD i 0 : Nat)) := by
        rcases B.out.2.2 with h1 | h1
        · have := HN.out; rw [h1] at this; simp at this; omega
        · exact h1
      have CL := Lib.hid hcl
      have k0 := hcl 0 (by have := HN.out; omega)
      rw [Nat.add_zero] at k0
      have e0 := getD_lt B.out.1 0
      obtain ⟨x0, hx0⟩ : ∃ x, x = c.getD 0 0 := ⟨_, rfl⟩
      rw [← hx0] at k0 e0
      have X0 := Lib.hid hx0
      clear hcl hx0
      by_cases hasc : x0 < 128
      · as_aux_lemma =>
          have hascz : (x0 : Int) < 128 := by omega
          obtain ⟨a1, n1, p1, cut1, hb1, hn1, hp1, hs1⟩ := cut_pack B.out HN.out hc 1 1 rfl (by omega)
          have B1 := Lib.hid hb1
          have N1 := Lib.hid hn1
          have S0 : Hid (¬ c.length = 0) := by rw [← HN.out]; show ¬ n = 0; omega
          have S1 : Hid (c.getD 0 0 < 128) := by rw [← X0.out]; exact hasc
          clear hb1 hn1 hasc
          by_cases c8 : 8 < n1
          · have c8z : (8 : Int) < (n1 : Int) := by omega
            have lA1 : W8 (c.drop 1) < 18446744073709551616 := W8_lt B1.out.1
            have cW1 := Lib.hid (word_any (n := n1) (cap := p1) B1.out N1.out (by omega))
            obtain ⟨A1, hA1⟩ : ∃ A1, A1 = W8 (c.drop 1) := ⟨_, rfl⟩
            rw [← hA1] at cW1 lA1
            have hand1 : bits .and .u64 (A1 : Int) 9259542123273814144 = ((A1 &&& 9259542123273814144 : Nat) : Int) := u64_and_nat A1 9259542123273814144 lA1 (by omega)
            obtain ⟨Z1, hZ1⟩ : ∃ Z1, Z1 = A1 &&& 9259542123273814144 := ⟨_, rfl⟩
            rw [← hZ1] at hand1
            have S2 : Hid (Z1 = W8 (c.drop 1) &&& 9259542123273814144) := by show Z1 = _; rw [hZ1, hA1]
            clear hZ1 hA1 lA1
            by_cases hz1 : Z1 = 0
            · have hz1b : ((Z1 : Int) == 0) = true := by simp [hz1]
              have S3 : Hid (8 < (c.drop 1).length ∧ W8 (c.drop 1) &&& 9259542123273814144 = 0) := ⟨by rw [← N1.out]; exact c8, by rw [← S2.out]; exact hz1⟩
              obtain ⟨a2, n2, p2, cut2, hb2, hn2, hp2, hs2⟩ := cut_pack B1.out N1.out hp1 8 8 rfl (by omega)
              have B2 := Lib.hid hb2
              have N2 := Lib.hid hn2
              clear hb2 hn2 hz1 S2
              go_wp2_with fail
              refine cW1.out.mono ?_
              rintro e W1 ⟨rfl, q1, rfl⟩
              obtain ⟨wq, hwq⟩ : ∃ wq, wq = wr.drewN q1 := ⟨_, rfl⟩
              have F1 : Hid (Frm [] wr wq) := by rw [hwq]; exact (Frm.refl _ _).drewN _
              rw [← hwq]
              clear hwq
              go_wp2
              clear cW1 hand1 hz1b cut1 k0 e0 hascz c8z B HT' CL
              have B2' : Hid (Bytes wq a2 ((c.drop 1).drop 8)) := F1.out.bytes B2.out (by simp)
              by_cases c16 : 16 < n2
              · have c16z : (16 : Int) < (n2 : Int) := by omega
                obtain ⟨a4, n4, p4, cut4, hb4, hn4, hp4, hs4⟩ := cut_pack B2'.out N2.out hp2 8 8 rfl (by omega)
                obtain ⟨a3, n3, p3, cut3, hb3, hn3, hp3, hs3⟩ := cut_pack B2'.out N2.out hp2 16 16 rfl (by omega)
                have B4 := Lib.hid hb4
                have N4 := Lib.hid hn4
                have B3 := Lib.hid hb3
                have N3 := Lib.hid hn3
                have lA2 : W8 ((c.drop 1).drop 8) < 18446744073709551616 := W8_lt B2'.out.1
                have lA3 : W8 (((c.drop 1).drop 8).drop 8) < 18446744073709551616 := W8_lt B4.out.1
                have cW2 := Lib.hid (fun (q : Nat) => word_any (n := n2) (cap := p2) (B2'.out.drewN q) N2.out (by omega))
                have cW3 := Lib.hid (fun (q : Nat) => word_any (n := n4) (cap := p4) (B4.out.drewN q) N4.out (by omega))
                obtain ⟨A2, hA2⟩ : ∃ A2, A2 = W8 ((c.drop 1).drop 8) := ⟨_, rfl⟩
                obtain ⟨A3, hA3⟩ : ∃ A3, A3 = W8 (((c.drop 1).drop 8).drop 8) := ⟨_, rfl⟩
                rw [← hA2] at cW2 lA2
                rw [← hA3] at cW3 lA3
                have hor2 : bits .or .u64 (A2 : Int) (A3 : Int) = ((A2 ||| A3 : Nat) : Int) := u64_or_nat A2 A3 lA2 lA3
                have lor2 : A2 ||| A3 < 18446744073709551616 := Nat.or_lt_two_pow (n := 64) lA2 lA3
                have hand2 : bits .and .u64 ((A2 ||| A3 : Nat) : Int) 9259542123273814144 = (((A2 ||| A3) &&& 9259542123273814144 : Nat) : Int) := u64_and_nat _ 9259542123273814144 lor2 (by omega)
                obtain ⟨O2, hO2⟩ : ∃ O2, O2 = A2 ||| A3 := ⟨_, rfl⟩
                rw [← hO2] at hor2 hand2
                obtain ⟨Z2, hZ2⟩ : ∃ Z2, Z2 = O2 &&& 9259542123273814144 := ⟨_, rfl⟩
                rw [← hZ2] at hand2
                have S4 : Hid (Z2 = (W8 ((c.drop 1).drop 8) ||| W8 (((c.drop 1).drop 8).drop 8)) &&& 9259542123273814144) := by show Z2 = _; rw [hZ2, hO2, hA2, hA3]
                clear hb4 hn4 hb3 hn3 hA2 hA3 hO2 hZ2 lor2 lA2 lA3
                by_cases hz2 : Z2 = 0
                · have hz2b : ((Z2 : Int) == 0) = true := by simp [hz2]
                  have S5 : Hid (16 < ((c.drop 1).drop 8).length ∧ (W8 ((c.drop 1).drop 8) ||| W8 (((c.drop 1).drop 8).drop 8)) &&& 9259542123273814144 = 0) := ⟨by rw [← N2.out]; exact c16, by rw [← S4.out]; exact hz2⟩
                  have ST : Hid (vstep (false, c) = .inl (true, ((c.drop 1).drop 8).drop 16)) := by show vF c = _; unfold vF; rw [if_neg S0.out, if_pos S1.out, if_pos S3.out, if_pos S5.out]
                  clear S0 S1 S3 S4 S5 hz2
                  go_wp2
                  go_quiet (first | with_reducible exact Calls.quiet_of (cW2.out _) | with_reducible exact Calls.quiet_of (cW3.out _))
                  obtain ⟨wt, hwt⟩ : ∃ wt, wt = wq.drewN nq := ⟨_, rfl⟩
                  have F3 : Hid (Frm [] w wt) := by rw [hwt]; exact frm_tr (frm_tr F.out F1.out) ((Frm.refl _ _).drewN _)
                  have B3' : Hid (Bytes wt a3 (((c.drop 1).drop 8).drop 16)) := by rw [hwt]; exact B3.out.drewN _
                  rw [← hwt]
                  clear hwt cW2 cW3 hor2 hand2 hz2b c16z cut2 cut4 B2 B2' B4 N4 B3 B1 F1 F
                  go_wp2
                  clear cut3
                  go_loopg [0] (n3 + 1) (fun g2 s0 wx => VRel w l true g2 s0 wx ∧ g2 ≤ n3 + 1)
                  case atStart => exact ⟨⟨_, _, _, _, rfl, B3'.out, N3.out, hp3, by omega, fun b hb => J.out b (.next ST.out hb), Nat.lt_succ_self _, F3.out⟩, Nat.le_refl _⟩
                  case round =>
                    clear B3' F3
                    obtain ⟨⟨au, nu, pu, u, rfl, hbu, hnu, hcu, hfu, hJu, hgu, hffu⟩, hg3⟩ := hrel
                    have JU := Lib.hid hJu
                    have FU := Lib.hid hffu
                    have BU := Lib.hid hbu
                    have NU := Lib.hid hnu
                    clear hbu hnu hJu hffu
                    by_cases c32 : 32 < nu
                    · obtain ⟨g3, rfl⟩ : ∃ g3, gk = g3 + 1 := ⟨gk - 1, by omega⟩
                      have c32z : (32 : Int) < (nu : Int) := by omega
                      obtain ⟨ab, nb, pb, cutb, hbb, hnb, hpb, hsb⟩ := cut_pack BU.out NU.out hcu 8 8 rfl (by omega)
                      obtain ⟨ac, nc, pc, cutc, hbc, hnc, hpc, hsc⟩ := cut_pack BU.out NU.out hcu 16 16 rfl (by omega)
                      obtain ⟨ad, nd, pd, cutd, hbd, hnd, hpd, hsd⟩ := cut_pack BU.out NU.out hcu 24 24 rfl (by omega)
                      obtain ⟨ae, ne, pe, cute, hbe, hne, hpe, hse⟩ := cut_pack BU.out NU.out hcu 32 32 rfl (by omega)
                      have BE := Lib.hid hbe
                      have NE := Lib.hid hne
                      have l0 : W8 u < 18446744073709551616 := W8_lt BU.out.1
                      have l1 : W8 (u.drop 8) < 18446744073709551616 := W8_lt hbb.1
                      have l2 : W8 (u.drop 16) < 18446744073709551616 := W8_lt hbc.1
                      have l3 : W8 (u.drop 24) < 18446744073709551616 := W8_lt hbd.1
                      have cB0 := Lib.hid (fun (q : Nat) => word_any (n := nu) (cap := pu) (BU.out.drewN q) NU.out (by omega))
                      have cB1 := Lib.hid (fun (q : Nat) => word_any (n := nb) (cap := pb) (hbb.drewN q) hnb (by omega))
                      have cB2 := Lib.hid (fun (q : Nat) => word_any (n := nc) (cap := pc) (hbc.drewN q) hnc (by omega))
                      have cB3 := Lib.hid (fun (q : Nat) => word_any (n := nd) (cap := pd) (hbd.drewN q) hnd (by omega))
                      obtain ⟨D0, hD0⟩ : ∃ D, D = W8 u := ⟨_, rfl⟩
                      obtain ⟨D1, hD1⟩ : ∃ D, D = W8 (u.drop 8) := ⟨_, rfl⟩
                      obtain ⟨D2, hD2⟩ : ∃ D, D = W8 (u.drop 16) := ⟨_, rfl⟩
                      obtain ⟨D3, hD3⟩ : ∃ D, D = W8 (u.drop 24) := ⟨_, rfl⟩
                      rw [← hD0] at cB0 l0
                      rw [← hD1] at cB1 l1
                      rw [← hD2] at cB2 l2
                      rw [← hD3] at cB3 l3
                      have ho1 : bits .or .u64 (D0 : Int) (D1 : Int) = ((D0 ||| D1 : Nat) : Int) := u64_or_nat D0 D1 l0 l1
                      have ho2 : bits .or .u64 (D2 : Int) (D3 : Int) = ((D2 ||| D3 : Nat) : Int) := u64_or_nat D2 D3 l2 l3
                      have lo1 : D0 ||| D1 < 18446744073709551616 := Nat.or_lt_two_pow (n := 64) l0 l1
                      have lo2 : D2 ||| D3 < 18446744073709551616 := Nat.or_lt_two_pow (n := 64) l2 l3
                      have ho3 : bits .or .u64 ((D0 ||| D1 : Nat) : Int) ((D2 ||| D3 : Nat) : Int) = (((D0 ||| D1) ||| (D2 ||| D3) : Nat) : Int) := u64_or_nat _ _ lo1 lo2
                      have lo3 : (D0 ||| D1) ||| (D2 ||| D3) < 18446744073709551616 := Nat.or_lt_two_pow (n := 64) lo1 lo2
                      have hand3 : bits .and .u64 (((D0 ||| D1) ||| (D2 ||| D3) : Nat) : Int) 9259542123273814144 = ((((D0 ||| D1) ||| (D2 ||| D3)) &&& 9259542123273814144 : Nat) : Int) := u64_and_nat _ 9259542123273814144 lo3 (by omega)
                      obtain ⟨P1, hP1⟩ : ∃ P1, P1 = D0 ||| D1 := ⟨_, rfl⟩
                      obtain ⟨P2, hP2⟩ : ∃ P2, P2 = D2 ||| D3 := ⟨_, rfl⟩
                      rw [← hP1, ← hP2] at ho3 hand3
                      rw [← hP1] at ho1
                      rw [← hP2] at ho2
                      obtain ⟨P3, hP3⟩ : ∃ P3, P3 = P1 ||| P2 := ⟨_, rfl⟩
                      rw [← hP3] at ho3 hand3
                      obtain ⟨Z3, hZ3⟩ : ∃ Z3, Z3 = P3 &&& 9259542123273814144 := ⟨_, rfl⟩
                      rw [← hZ3] at hand3
                      have S6 : Hid (Z3 = ((W8 u ||| W8 (u.drop 8)) ||| (W8 (u.drop 16) ||| W8 (u.drop 24))) &&& 9259542123273814144) := by show Z3 = _; rw [hZ3, hP3, hP1, hP2, hD0, hD1, hD2, hD3]
                      clear hbb hnb hbc hnc hbd hnd hbe hne lo1 lo2 lo3 l0 l1 l2 l3 hD0 hD1 hD2 hD3 hP1 hP2 hP3 hZ3
                      by_cases hz3 : Z3 = 0
                      · have hz3b : ((Z3 : Int) == 0) = true := by simp [hz3]
                        have S7 : Hid (32 < u.length ∧ ((W8 u ||| W8 (u.drop 8)) ||| (W8 (u.drop 16) ||| W8 (u.drop 24))) &&& 9259542123273814144 = 0) := ⟨by rw [← NU.out]; exact c32, by rw [← S6.out]; exact hz3⟩
                        have SU : Hid (vstep (true, u) = .inl (true, u.drop 32)) := by show vT u = _; unfold vT; rw [if_pos S7.out]
                        clear S6 S7 hz3
                        go_wp2
                        go_quiet (first | with_reducible exact Calls.quiet_of (cB0.out _) | with_reducible exact Calls.quiet_of (cB1.out _) | with_reducible exact Calls.quiet_of (cB2.out _) | with_reducible exact Calls.quiet_of (cB3.out _))
                        go_wp2
                        go_roundg g3
                        case measure => omega
                        case rel => exact ⟨⟨_, _, _, _, rfl, BE.out.drewN nq, NE.out, hpe, by omega, fun b hb => JU.out b (.next SU.out hb), by omega, frm_tr FU.out ((Frm.refl _ _).drewN _)⟩, by omega⟩
                      · have hz3b : ((Z3 : Int) == 0) = false := by simp; omega
                        have S7 : Hid (¬ (32 < u.length ∧ ((W8 u ||| W8 (u.drop 8)) ||| (W8 (u.drop 16) ||| W8 (u.drop 24))) &&& 9259542123273814144 = 0)) := fun h => hz3 (by rw [S6.out]; exact h.2)
                        have SU : Hid (vstep (true, u) = .inl (false, u)) := by show vT u = _; unfold vT; rw [if_neg S7.out]
                        clear S6 S7 hz3
                        go_wp2
                        go_quiet (first | with_reducible exact Calls.quiet_of (cB0.out _) | with_reducible exact Calls.quiet_of (cB1.out _) | with_reducible exact Calls.quiet_of (cB2.out _) | with_reducible exact Calls.quiet_of (cB3.out _))
                        go_wp2
                        go_roundg g'
                        case measure => omega
                        case rel => exact ⟨_, _, _, _, rfl, BU.out.drewN nq, NU.out, hcu, by omega, fun b hb => JU.out b (.next SU.out hb), by omega, frm_tr FU.out ((Frm.refl _ _).drewN _)⟩
                    · have c32z : ¬ ((32 : Int) < (nu : Int)) := by omega
                      have c32b : decide ((32 : Int) < (nu : Int)) = false := decide_eq_false c32z
                      have S7 : Hid (¬ (32 < u.length ∧ ((W8 u ||| W8 (u.drop 8)) ||| (W8 (u.drop 16) ||| W8 (u.drop 24))) &&& 9259542123273814144 = 0)) := fun h => c32 (by rw [NU.out]; exact h.1)
                      have SU : Hid (vstep (true, u) = .inl (false, u)) := by show vT u = _; unfold vT; rw [if_neg S7.out]
                      clear S7
                      go_wp2
                      go_quiet (fail)
                      go_wp2
                      go_roundg g'
                      case measure => omega
                      case rel => exact ⟨_, _, _, _, rfl, BU.out.drewN nq, NU.out, hcu, by omega, fun b hb => JU.out b (.next SU.out hb), by omega, frm_tr FU.out ((Frm.refl _ _).drewN _)⟩
                · have hz2b : ((Z2 : Int) == 0) = false := by simp; omega
                  have S5 : Hid (¬ (16 < ((c.drop 1).drop 8).length ∧ (W8 ((c.drop 1).drop 8) ||| W8 (((c.drop 1).drop 8).drop 8)) &&& 9259542123273814144 = 0)) := fun h => hz2 (by rw [S4.out]; exact h.2)
                  have ST : Hid (vstep (false, c) = .inl (false, (c.drop 1).drop 8)) := by show vF c = _; unfold vF; rw [if_neg S0.out, if_pos S1.out, if_pos S3.out, if_neg S5.out]
                  clear S0 S1 S3 S4 S5 hz2
                  go_wp2
                  go_quiet (first | with_reducible exact Calls.quiet_of (cW2.out _) | with_reducible exact Calls.quiet_of (cW3.out _))
                  go_wp2
                  go_roundg g'
                  case measure => omega
                  case rel => exact ⟨_, _, _, _, rfl, B2'.out.drewN nq, N2.out, hp2, by omega, fun b hb => J.out b (.next ST.out hb), by omega, frm_tr (frm_tr F.out F1.out) ((Frm.refl _ _).drewN _)⟩
              · have c16z : ¬ ((16 : Int) < (n2 : Int)) := by omega
                have c16b : decide ((16 : Int) < (n2 : Int)) = false := decide_eq_false c16z
                have S5 : Hid (¬ (16 < ((c.drop 1).drop 8).length ∧ (W8 ((c.drop 1).drop 8) ||| W8 (((c.drop 1).drop 8).drop 8)) &&& 9259542123273814144 = 0)) := fun h => c16 (by rw [N2.out]; exact h.1)
                have ST : Hid (vstep (false, c) = .inl (false, (c.drop 1).drop 8)) := by show vF c = _; unfold vF; rw [if_neg S0.out, if_pos S1.out, if_pos S3.out, if_neg S5.out]
                clear S0 S1 S3 S5
                go_wp2
                go_quiet (fail)
                go_wp2
                go_roundg g'
                case measure => omega
                case rel => exact ⟨_, _, _, _, rfl, B2'.out.drewN nq, N2.out, hp2, by omega, fun b hb => J.out b (.next ST.out hb), by omega, frm_tr (frm_tr F.out F1.out) ((Frm.refl _ _).drewN _)⟩
            · have hz1b : ((Z1 : Int) == 0) = false := by simp; omega
              have S3 : Hid (¬ (8 < (c.drop 1).length ∧ W8 (c.drop 1) &&& 9259542123273814144 = 0)) := fun h => hz1 (by rw [S2.out]; exact h.2)
              have ST : Hid (vstep (false, c) = .inl (false, c.drop 1)) := by show vF c = _; unfold vF; rw [if_neg S0.out, if_pos S1.out, if_neg S3.out]
              clear S0 S1 S2 S3 hz1
              go_wp2_with fail
              refine cW1.out.mono ?_
              rintro e W1 ⟨rfl, q1, rfl⟩
              go_wp2
              go_roundg g'
              case measure => omega
              case rel => exact ⟨_, _, _, _, rfl, B1.out.drewN q1, N1.out, hp1, by omega, fun b hb => J.out b (.next ST.out hb), by omega, frm_tr F.out ((Frm.refl _ _).drewN _)⟩
          · have c8z : ¬ ((8 : Int) < (n1 : Int)) := by omega
            have S3 : Hid (¬ (8 < (c.drop 1).length ∧ W8 (c.drop 1) &&& 9259542123273814144 = 0)) := fun h => c8 (by rw [N1.out]; exact h.1)
            have ST : Hid (vstep (false, c) = .inl (false, c.drop 1)) := by show vF c = _; unfold vF; rw [if_neg S0.out, if_pos S1.out, if_neg S3.out]
            clear S0 S1 S3
            go_wp2
            go_roundg g'
            case measure => omega
            case rel => exact ⟨_, _, _, _, rfl, B1.out, N1.out, hp1, by omega, fun b hb => J.out b (.next ST.out hb), by omega, F.out⟩
      · as_aux_lemma =>
          have hge : ¬ ((x0 : Int) < 128) := by omega
          have S1 : Hid (¬ c.getD 0 0 < 128) := by rw [← X0.out]; exact hasc
          have S0 : Hid (¬ c.length = 0) := by rw [← HN.out]; show ¬ n = 0; omega
          have hc0 := HT'.out.1 x0 e0
          have hXlt : Lib.firstT x0 < 256 := by rcases Lib.firstT_cases x0 with h | h | h | h | h | h | h | h | h <;> omega
          obtain ⟨X, hX⟩ : ∃ X, X = Lib.firstT x0 := ⟨_, rfl⟩
          rw [← hX] at hc0 hXlt
          have XF : Hid (X = Lib.firstT (c.getD 0 0)) := by rw [← X0.out]; exact hX
          have h7 := and7 ⟨X, hXlt⟩
          simp only at h7
          obtain ⟨LO, hLO⟩ : ∃ LO, LO = Lib.accLo (X / 16) := ⟨_, rfl⟩
          obtain ⟨HI, hHI⟩ : ∃ HI, HI = Lib.accHi (X / 16) := ⟨_, rfl⟩
          have ha0 : wr.cell? ⟨1, X / 16 * 2, none⟩ = some (.int .u8 LO) := by rw [Nat.mul_comm, hLO]; exact (HT'.out.2 (X / 16) (by omega)).1
          have ha1 : wr.cell? ⟨1, X / 16 * 2 + 1, none⟩ = some (.int .u8 HI) := by rw [Nat.mul_comm, hHI]; exact (HT'.out.2 (X / 16) (by omega)).2
          have LF : Hid (LO = Lib.accLo (Lib.firstT (c.getD 0 0) / 16)) := by rw [← XF.out]; exact hLO
          have HF : Hid (HI = Lib.accHi (Lib.firstT (c.getD 0 0) / 16)) := by rw [← XF.out]; exact hHI
          obtain ⟨SZ, hSZ⟩ : ∃ SZ, SZ = X % 8 := ⟨_, rfl⟩
          have SF : Hid (SZ = Lib.firstT (c.getD 0 0) % 8) := by rw [← XF.out]; exact hSZ
          have SQ := Lib.hid hSZ
          have e1 := getD_lt B.out.1 1; have e2 := getD_lt B.out.1 2; have e3 := getD_lt B.out.1 3
          obtain ⟨x1, hx1⟩ : ∃ x, x = c.getD 1 0 := ⟨_, rfl⟩
          rw [← hx1] at e1
          have Y1 := Lib.hid hx1
          obtain ⟨x2, hx2⟩ : ∃ x, x = c.getD 2 0 := ⟨_, rfl⟩
          rw [← hx2] at e2
          have Y2 := Lib.hid hx2
          obtain ⟨x3, hx3⟩ : ∃ x, x = c.getD 3 0 := ⟨_, rfl⟩
          rw [← hx3] at e3
          have Y3 := Lib.hid hx3
          have F2 : Hid (Frm [] wr (wr.alloc (.cells #[.int .u8 LO, .int .u8 HI] 110))) := (Frm.refl _ _).alloc _
          have AL : Hid (Whole (wr.alloc (.cells #[.int .u8 LO, .int .u8 HI] 110)) wr.heap.size 110 #[.int .u8 LO, .int .u8 HI]) := Whole.made _ _ _
          clear hasc hX hLO hHI hSZ hx1 hx2 hx3 HT'
          by_cases s2 : SZ = 2
          · have Q : Hid (Lib.firstT (c.getD 0 0) % 8 = 2) := by rw [← SF.out]; exact s2
            have hSZz : (X : Int) % 8 = 2 := by have := SQ.out; omega
            have EQV : Hid ((c.length < 2 ∨ c.getD 1 0 < Lib.accLo (Lib.firstT (c.getD 0 0) / 16) ∨ Lib.accHi (Lib.firstT (c.getD 0 0) / 16) < c.getD 1 0) ↔ (n < 2 ∨ x1 < LO ∨ HI < x1)) := by rw [← HN.out, ← LF.out, ← HF.out, ← Y1.out]; exact Iff.rfl
            have STF : Hid (((n < 2 ∨ x1 < LO ∨ HI < x1) → vstep (false, c) = .inr false) ∧ (¬ (n < 2 ∨ x1 < LO ∨ HI < x1) → vstep (false, c) = .inl (false, c.drop 2))) := ⟨fun h => by show vF c = _; unfold vF; rw [if_neg S0.out, if_neg S1.out, if_pos Q.out, if_pos (EQV.out.2 h)], fun h => by show vF c = _; unfold vF; rw [if_neg S0.out, if_neg S1.out, if_pos Q.out, if_neg (fun h' => h (EQV.out.1 h'))]⟩
            clear EQV s2 LF HF SF XF
            go_wp2
            obtain ⟨W2, hW2⟩ : ∃ W2, W2 = wr.alloc (.cells #[.int .u8 LO, .int .u8 HI] 110) := ⟨_, rfl⟩
            rw [← hW2] at F2 AL ⊢
            obtain ⟨g, hg⟩ : ∃ g, g = wr.heap.size := ⟨_, rfl⟩
            rw [← hg] at AL ⊢
            have d0 := AL.out.cell 0
            have d1 := AL.out.cell 1
            simp at d0 d1
            clear hW2 hg k0 hc0 ha0 ha1 h7
            by_cases q0 : n < 2
            · have q0z : (n : Int) < 2 := by omega
              go_quiet (fail)
              go_wp2
              all_goals (go_ret; exact ⟨false, rfl, J.out _ (.done (STF.out.1 (by omega))), frm_tr F.out (frm_tr F2.out ((Frm.refl _ _).drewN _))⟩)
            have q0z : ¬ ((n : Int) < 2) := by omega
            have z1 : (1 : Int) < (n : Int) := by omega
            have m1 : W2.cell? ⟨b, off + 1, none⟩ = some (.int .u8 (x1 : Nat)) := by rw [Y1.out]; exact frm_at F2.out (CL.out 1 (by have := HN.out; omega)) (by simp)
            by_cases qlo : x1 < LO
            · have plo : (x1 : Int) < (LO : Int) := by omega
              go_quiet (fail)
              go_wp2
              all_goals (go_ret; exact ⟨false, rfl, J.out _ (.done (STF.out.1 (by omega))), frm_tr F.out (frm_tr F2.out ((Frm.refl _ _).drewN _))⟩)
            have plo : ¬ ((x1 : Int) < (LO : Int)) := by omega
            by_cases qhi : HI < x1
            · have phi : (HI : Int) < (x1 : Int) := by omega
              go_quiet (fail)
              go_wp2
              all_goals (go_ret; exact ⟨false, rfl, J.out _ (.done (STF.out.1 (by omega))), frm_tr F.out (frm_tr F2.out ((Frm.refl _ _).drewN _))⟩)
            have phi : ¬ ((HI : Int) < (x1 : Int)) := by omega
            obtain ⟨aj, nj, pj, cutj, hbj, hnj, hpj, hsj⟩ := cut_pack B.out HN.out hc 2 2 rfl (by omega)
            have BJ := Lib.hid (F2.out.bytes hbj (by simp))
            have NJ := Lib.hid hnj
            have SN := Lib.hid (STF.out.2 (by omega))
            clear hbj hnj
            go_quiet (fail)
            go_wp2
            go_roundg g'
            case measure => omega
            case rel => exact ⟨_, _, _, _, rfl, BJ.out.drewN nq, NJ.out, hpj, by omega, fun b hb => J.out b (.next SN.out hb), by omega, frm_tr F.out (frm_tr F2.out ((Frm.refl _ _).drewN _))⟩
          have Q2 : Hid (¬ Lib.firstT (c.getD 0 0) % 8 = 2) := by rw [← SF.out]; exact s2
          have r2 : (((X : Int) % 8) == 2) = false := by have := SQ.out; simp; omega
          clear s2
          by_cases s3 : SZ = 3
          · have Q : Hid (Lib.firstT (c.getD 0 0) % 8 = 3) := by rw [← SF.out]; exact s3
            have hSZz : (X : Int) % 8 = 3 := by have := SQ.out; omega
            have EQV : Hid ((c.length < 3 ∨ c.getD 1 0 < Lib.accLo (Lib.firstT (c.getD 0 0) / 16) ∨ Lib.accHi (Lib.firstT (c.getD 0 0) / 16) < c.getD 1 0 ∨ c.getD 2 0 < 128 ∨ 191 < c.getD 2 0) ↔ (n < 3 ∨ x1 < LO ∨ HI < x1 ∨ x2 < 128 ∨ 191 < x2)) := by rw [← HN.out, ← LF.out, ← HF.out, ← Y1.out, ← Y2.out]; exact Iff.rfl
            have STF : Hid (((n < 3 ∨ x1 < LO ∨ HI < x1 ∨ x2 < 128 ∨ 191 < x2) → vstep (false, c) = .inr false) ∧ (¬ (n < 3 ∨ x1 < LO ∨ HI < x1 ∨ x2 < 128 ∨ 191 < x2) → vstep (false, c) = .inl (false, c.drop 3))) := ⟨fun h => by show vF c = _; unfold vF; rw [if_neg S0.out, if_neg S1.out, if_neg Q2.out, if_pos Q.out, if_pos (EQV.out.2 h)], fun h => by show vF c = _; unfold vF; rw [if_neg S0.out, if_neg S1.out, if_neg Q2.out, if_pos Q.out, if_neg (fun h' => h (EQV.out.1 h'))]⟩
            clear EQV s3 LF HF SF XF
            go_wp2
            obtain ⟨W2, hW2⟩ : ∃ W2, W2 = wr.alloc (.cells #[.int .u8 LO, .int .u8 HI] 110) := ⟨_, rfl⟩
            rw [← hW2] at F2 AL ⊢
            obtain ⟨g, hg⟩ : ∃ g, g = wr.heap.size := ⟨_, rfl⟩
            rw [← hg] at AL ⊢
            have d0 := AL.out.cell 0
            have d1 := AL.out.cell 1
            simp at d0 d1
            clear hW2 hg k0 hc0 ha0 ha1 h7
            by_cases q0 : n < 3
            · have q0z : (n : Int) < 3 := by omega
              go_quiet (fail)
              go_wp2
              all_goals (go_ret; exact ⟨false, rfl, J.out _ (.done (STF.out.1 (by omega))), frm_tr F.out (frm_tr F2.out ((Frm.refl _ _).drewN _))⟩)
            have q0z : ¬ ((n : Int) < 3) := by omega
            have z1 : (1 : Int) < (n : Int) := by omega
            have m1 : W2.cell? ⟨b, off + 1, none⟩ = some (.int .u8 (x1 : Nat)) := by rw [Y1.out]; exact frm_at F2.out (CL.out 1 (by have := HN.out; omega)) (by simp)
            have z2 : (2 : Int) < (n : Int) := by omega
            have m2 : W2.cell? ⟨b, off + 2, none⟩ = some (.int .u8 (x2 : Nat)) := by rw [Y2.out]; exact frm_at F2.out (CL.out 2 (by have := HN.out; omega)) (by simp)
            by_cases qlo : x1 < LO
            · have plo : (x1 : Int) < (LO : Int) := by omega
              go_quiet (fail)
              go_wp2
              all_goals (go_ret; exact ⟨false, rfl, J.out _ (.done (STF.out.1 (by omega))), frm_tr F.out (frm_tr F2.out ((Frm.refl _ _).drewN _))⟩)
            have plo : ¬ ((x1 : Int) < (LO : Int)) := by omega
            by_cases qhi : HI < x1
            · have phi : (HI : Int) < (x1 : Int) := by omega
              go_quiet (fail)
              go_wp2
              all_goals (go_ret; exact ⟨false, rfl, J.out _ (.done (STF.out.1 (by omega))), frm_tr F.out (frm_tr F2.out ((Frm.refl _ _).drewN _))⟩)
            have phi : ¬ ((HI : Int) < (x1 : Int)) := by omega
            by_cases qa2 : x2 < 128
            · have pa2 : (x2 : Int) < 128 := by omega
              go_quiet (fail)
              go_wp2
              all_goals (go_ret; exact ⟨false, rfl, J.out _ (.done (STF.out.1 (by omega))), frm_tr F.out (frm_tr F2.out ((Frm.refl _ _).drewN _))⟩)
            have pa2 : ¬ ((x2 : Int) < 128) := by omega
            by_cases qb2 : 191 < x2
            · have pb2 : (191 : Int) < (x2 : Int) := by omega
              go_quiet (fail)
              go_wp2
              all_goals (go_ret; exact ⟨false, rfl, J.out _ (.done (STF.out.1 (by omega))), frm_tr F.out (frm_tr F2.out ((Frm.refl _ _).drewN _))⟩)
            have pb2 : ¬ ((191 : Int) < (x2 : Int)) := by omega
            obtain ⟨aj, nj, pj, cutj, hbj, hnj, hpj, hsj⟩ := cut_pack B.out HN.out hc 3 3 rfl (by omega)
            have BJ := Lib.hid (F2.out.bytes hbj (by simp))
            have NJ := Lib.hid hnj
            have SN := Lib.hid (STF.out.2 (by omega))
            clear hbj hnj
            go_quiet (fail)
            go_wp2
            go_roundg g'
            case measure => omega
            case rel => exact ⟨_, _, _, _, rfl, BJ.out.drewN nq, NJ.out, hpj, by omega, fun b hb => J.out b (.next SN.out hb), by omega, frm_tr F.out (frm_tr F2.out ((Frm.refl _ _).drewN _))⟩
          have Q3 : Hid (¬ Lib.firstT (c.getD 0 0) % 8 = 3) := by rw [← SF.out]; exact s3
          have r3 : (((X : Int) % 8) == 3) = false := by have := SQ.out; simp; omega
          clear s3
          by_cases s4 : SZ = 4
          · have Q : Hid (Lib.firstT (c.getD 0 0) % 8 = 4) := by rw [← SF.out]; exact s4
            have hSZz : (X : Int) % 8 = 4 := by have := SQ.out; omega
            have EQV : Hid ((c.length < 4 ∨ c.getD 1 0 < Lib.accLo (Lib.firstT (c.getD 0 0) / 16) ∨ Lib.accHi (Lib.firstT (c.getD 0 0) / 16) < c.getD 1 0 ∨ c.getD 2 0 < 128 ∨ 191 < c.getD 2 0 ∨ c.getD 3 0 < 128 ∨ 191 < c.getD 3 0) ↔ (n < 4 ∨ x1 < LO ∨ HI < x1 ∨ x2 < 128 ∨ 191 < x2 ∨ x3 < 128 ∨ 191 < x3)) := by rw [← HN.out, ← LF.out, ← HF.out, ← Y1.out, ← Y2.out, ← Y3.out]; exact Iff.rfl
            have STF : Hid (((n < 4 ∨ x1 < LO ∨ HI < x1 ∨ x2 < 128 ∨ 191 < x2 ∨ x3 < 128 ∨ 191 < x3) → vstep (false, c) = .inr false) ∧ (¬ (n < 4 ∨ x1 < LO ∨ HI < x1 ∨ x2 < 128 ∨ 191 < x2 ∨ x3 < 128 ∨ 191 < x3) → vstep (false, c) = .inl (false, c.drop 4))) := ⟨fun h => by show vF c = _; unfold vF; rw [if_neg S0.out, if_neg S1.out, if_neg Q2.out, if_neg Q3.out, if_pos Q.out, if_pos (EQV.out.2 h)], fun h => by show vF c = _; unfold vF; rw [if_neg S0.out, if_neg S1.out, if_neg Q2.out, if_neg Q3.out, if_pos Q.out, if_neg (fun h' => h (EQV.out.1 h'))]⟩
            clear EQV s4 LF HF SF XF
            go_wp2
            obtain ⟨W2, hW2⟩ : ∃ W2, W2 = wr.alloc (.cells #[.int .u8 LO, .int .u8 HI] 110) := ⟨_, rfl⟩
            rw [← hW2] at F2 AL ⊢
            obtain ⟨g, hg⟩ : ∃ g, g = wr.heap.size := ⟨_, rfl⟩
            rw [← hg] at AL ⊢
            have d0 := AL.out.cell 0
            have d1 := AL.out.cell 1
            simp at d0 d1
            clear hW2 hg k0 hc0 ha0 ha1 h7
            by_cases q0 : n < 4
            · have q0z : (n : Int) < 4 := by omega
              go_quiet (fail)
              go_wp2
              all_goals (go_ret; exact ⟨false, rfl, J.out _ (.done (STF.out.1 (by omega))), frm_tr F.out (frm_tr F2.out ((Frm.refl _ _).drewN _))⟩)
            have q0z : ¬ ((n : Int) < 4) := by omega
            have z1 : (1 : Int) < (n : Int) := by omega
            have m1 : W2.cell? ⟨b, off + 1, none⟩ = some (.int .u8 (x1 : Nat)) := by rw [Y1.out]; exact frm_at F2.out (CL.out 1 (by have := HN.out; omega)) (by simp)
            have z2 : (2 : Int) < (n : Int) := by omega
            have m2 : W2.cell? ⟨b, off + 2, none⟩ = some (.int .u8 (x2 : Nat)) := by rw [Y2.out]; exact frm_at F2.out (CL.out 2 (by have := HN.out; omega)) (by simp)
            have z3 : (3 : Int) < (n : Int) := by omega
            have m3 : W2.cell? ⟨b, off + 3, none⟩ = some (.int .u8 (x3 : Nat)) := by rw [Y3.out]; exact frm_at F2.out (CL.out 3 (by have := HN.out; omega)) (by simp)
            by_cases qlo : x1 < LO
            · have plo : (x1 : Int) < (LO : Int) := by omega
              go_quiet (fail)
              go_wp2
              all_goals (go_ret; exact ⟨false, rfl, J.out _ (.done (STF.out.1 (by omega))), frm_tr F.out (frm_tr F2.out ((Frm.refl _ _).drewN _))⟩)
            have plo : ¬ ((x1 : Int) < (LO : Int)) := by omega
            by_cases qhi : HI < x1
            · have phi : (HI : Int) < (x1 : Int) := by omega
              go_quiet (fail)
              go_wp2
              all_goals (go_ret; exact ⟨false, rfl, J.out _ (.done (STF.out.1 (by omega))), frm_tr F.out (frm_tr F2.out ((Frm.refl _ _).drewN _))⟩)
            have phi : ¬ ((HI : Int) < (x1 : Int)) := by omega
            by_cases qa2 : x2 < 128
            · have pa2 : (x2 : Int) < 128 := by omega
              go_quiet (fail)
              go_wp2
              all_goals (go_ret; exact ⟨false, rfl, J.out _ (.done (STF.out.1 (by omega))), frm_tr F.out (frm_tr F2.out ((Frm.refl _ _).drewN _))⟩)
            have pa2 : ¬ ((x2 : Int) < 128) := by omega
            by_cases qb2 : 191 < x2
            · have pb2 : (191 : Int) < (x2 : Int) := by omega
              go_quiet (fail)
              go_wp2
              all_goals (go_ret; exact ⟨false, rfl, J.out _ (.done (STF.out.1 (by omega))), frm_tr F.out (frm_tr F2.out ((Frm.refl _ _).drewN _))⟩)
            have pb2 : ¬ ((191 : Int) < (x2 : Int)) := by omega
            by_cases qa3 : x3 < 128
            · have pa3 : (x3 : Int) < 128 := by omega
              go_quiet (fail)
              go_wp2
              all_goals (go_ret; exact ⟨false, rfl, J.out _ (.done (STF.out.1 (by omega))), frm_tr F.out (frm_tr F2.out ((Frm.refl _ _).drewN _))⟩)
            have pa3 : ¬ ((x3 : Int) < 128) := by omega
            by_cases qb3 : 191 < x3
            · have pb3 : (191 : Int) < (x3 : Int) := by omega
              go_quiet (fail)
              go_wp2
              all_goals (go_ret; exact ⟨false, rfl, J.out _ (.done (STF.out.1 (by omega))), frm_tr F.out (frm_tr F2.out ((Frm.refl _ _).drewN _))⟩)
            have pb3 : ¬ ((191 : Int) < (x3 : Int)) := by omega
            obtain ⟨aj, nj, pj, cutj, hbj, hnj, hpj, hsj⟩ := cut_pack B.out HN.out hc 4 4 rfl (by omega)
            have BJ := Lib.hid (F2.out.bytes hbj (by simp))
            have NJ := Lib.hid hnj
            have SN := Lib.hid (STF.out.2 (by omega))
            clear hbj hnj
            go_quiet (fail)
            go_wp2
            go_roundg g'
            case measure => omega
            case rel => exact ⟨_, _, _, _, rfl, BJ.out.drewN nq, NJ.out, hpj, by omega, fun b hb => J.out b (.next SN.out hb), by omega, frm_tr F.out (frm_tr F2.out ((Frm.refl _ _).drewN _))⟩
          have Q4 : Hid (¬ Lib.firstT (c.getD 0 0) % 8 = 4) := by rw [← SF.out]; exact s4
          have r4 : (((X : Int) % 8) == 4) = false := by have := SQ.out; simp; omega
          clear s4
          have ST : Hid (vstep (false, c) = .inr false) := by show vF c = _; unfold vF; rw [if_neg S0.out, if_neg S1.out, if_neg Q2.out, if_neg Q3.out, if_neg Q4.out]
          go_wp2
          go_ret
          exact ⟨false, rfl, J.out _ (.done ST.out), frm_tr F.out F2.out⟩
    · have h0z : ¬ (0 : Int) < (n : Int) := by omega
      have ST : Hid (vstep (false, c) = .inr true) := by show vF c = _; unfold vF; rw [if_pos (by rw [← HN.out]; omega)]
      go_wp2
      go_ret
      exact ⟨true, rfl, J.out _ (.done ST.out), F.out⟩
end Go.Proofs.YtahhkffghhgojaaDoor
/- (For PackReads' own seat.) Text and Fail on both sides; a thing, taken on both sides: as much is left on both, or both have the same fault. -/
namespace Go.Proofs.YtahhkffghhgojaaDoor
open Go.RowKit

def VOk (V : List Nat → Bool) : Prop := ∀ l b, Val (false, l) b → V l = b
abbrev Tabs (w : World) : Prop := Lib.Utf8Tabs 0 1 w
theorem Tabs.keep {w w' : World} {S : List Nat} (h : Tabs w) (hf : Frm S w w') (hS : ∀ x ∈ S, 2 ≤ x) : Tabs w' :=
  ⟨fun c hc => frm_at hf (h.1 c hc) (fun hm => by have := hS _ hm; simp at this), fun i hi => ⟨frm_at hf (h.2 i hi).1 (fun hm => by have := hS _ hm; simp at this), frm_at hf (h.2 i hi).2 (fun hm => by have := hS _ hm; simp at this)⟩⟩
theorem valid_V {V : List Nat → Bool} (hV : VOk V) {w : World} {a : Option Addr} {l : List Nat} {n cap : Nat} (h : Bytes w a l) (hn : n = l.length) (hc : n ≤ cap) (hfit : n ≤ 140737488355328) (hT : Tabs w) :
    Calls Tryd.prog 48 #[.slice a n cap] w (fun e w' => e = .returned (.bool (V l)) ∧ Frm [] w w') :=
  (valid_any h hn hc hfit hT).mono fun _ _ ⟨b, he, hv, hf⟩ => ⟨by rw [he, hV l b hv], hf⟩

def FaultS (w : World) (qb : Nat) (c : Int) (e : Ending) (w' : World) : Prop := ∃ s, e = .returned (.string s) ∧ RFault w' qb c ∧ Frm [qb] w w'
def RQText (w : World) (qb : Nat) (l : List Nat) (B n : Nat) (e : Ending) (w' : World) : Prop := e = .returned (.string (strOf ((l.drop 4).take n))) ∧ RQ w' qb (l.drop (4 + n)) B ∧ Frm [qb] w w'

set_option maxHeartbeats 1000000 in
theorem rqtext_none {w : World} {qb : Nat} (h : Calls Tryd.prog 47 #[.pointer (some ⟨qb, 0, none⟩)] w (Faulted w qb (.slice none 0 0) 4)) :
    Calls Tryd.prog 28 #[.pointer (some ⟨qb, 0, none⟩)] w (FaultS w qb 4) := by
  have HN := Lib.hid h
  have hcv := fun (w : World) => run_to_string (P := Tryd.prog) (src := 22) (dst := 9) (e := 5) Tryd.underlying22 Tryd.underlying5 Tryd.underlying9 (n := 0) (c := 0) (Bytes.nil (w := w) none) rfl
  clear h
  go_enter Tryd.func28, Tryd.ntmps28
  go_wp2_with fail
  refine HN.out.mono ?_
  rintro e w1 ⟨rfl, ⟨v, hv⟩, hf⟩
  have c1 := hv.cell 1
  simp at c1
  have FA : Hid (RFault w1 qb 4) := ⟨v, hv⟩
  have F := Lib.hid hf
  clear hv hf
  go_wp2
  go_ret
  exact ⟨_, rfl, FA.out, F.out⟩

set_option maxHeartbeats 2000000 in
theorem rqtext_some {V : List Nat → Bool} (hV : VOk V) {w : World} {qb : Nat} {l : List Nat} {B : Nat} (h : RQ w qb l B) (hT : Tabs w) (hB : 2 ≤ B) (hqB : B ≤ qb) (hl : 4 ≤ l.length) (z : Nat) (hz : val (l.take 4) = z) (hn : z ≤ l.length - 4) (hfit : l.length ≤ 100000) :
    Calls Tryd.prog 28 #[.pointer (some ⟨qb, 0, none⟩)] w (fun e w' => (V ((l.drop 4).take z) = true ∧ RQText w qb l B z e w') ∨ (V ((l.drop 4).take z) = false ∧ FaultS w qb 6 e w')) := by
  have HN := Lib.hid (rqbytes_ok h hqB hl z hz hn)
  have HL : Hid (z = ((l.drop 4).take z).length) := by show z = _; simp; omega
  have TB := Lib.hid hT
  have HB2 : Hid (2 ≤ qb) := Nat.le_trans hB hqB
  have HQB := Lib.hid hqB
  have hzf : z ≤ 140737488355328 := by omega
  clear h hl hz hn hT hB hqB
  go_enter Tryd.func28, Tryd.ntmps28
  go_wp2_with fail
  refine HN.out.mono ?_
  rintro e w1 ⟨a, cap, rfl, hb, hc, hab, hq, hf⟩
  have FA := Lib.hid (fun (W : World) (hfr : Frm [] w1 W) => (hq.keep hfr (by simp) (by simp)).fault 6)
  have RQK := Lib.hid (fun (W : World) (hfr : Frm [] w1 W) => hq.keep hfr (by simp) (by simp))
  have TB1 : Hid (Tabs w1) := TB.out.keep hf (fun x hx => by simp at hx; rw [hx]; exact HB2.out)
  have BB := Lib.hid hb
  have F := Lib.hid hf
  obtain ⟨qa, qc, hq, _⟩ := hq
  have QW := Lib.hid hq.whole
  have NEQ : Hid ((l.drop 4).take z ≠ [] → ∀ x, a = some x → x.block ≠ qb) := fun hne x hx => by have h1 := hab hne x hx; have := HQB.out; omega
  have c1 := hq.whole.cell 1
  simp at c1
  clear hb hf hq hab
  go_wp2_with fail
  refine (valid_V hV BB.out HL.out hc hzf TB1.out).mono ?_
  rintro e w2 ⟨rfl, hf2⟩
  have QW2 : Hid (Whole w2 qb 44 #[.slice qa (l.drop (4 + z)).length qc, .int .i64 0]) := hf2.whole QW.out (by simp)
  have F2 := Lib.hid hf2
  have f1 := QW2.out.free 1
  have c2 := QW2.out.cell 1
  simp at c2
  have hcv := fun (W : World) (hfr : Bytes W a ((l.drop 4).take z)) => run_to_string (P := Tryd.prog) (src := 22) (dst := 9) (e := 5) Tryd.underlying22 Tryd.underlying5 Tryd.underlying9 (n := z) (c := cap) hfr HL.out
  clear c1 hf2
  cases hv : V ((l.drop 4).take z) with
  | true =>
    have b2 : Bytes w2 a ((l.drop 4).take z) := F2.out.bytes BB.out (by simp)
    have hcv2 := hcv w2 b2
    have HV := Lib.hid hv
    clear hcv b2 hv
    go_wp2
    go_ret
    exact .inl ⟨HV.out, rfl, RQK.out w2 F2.out, F.out.trans F2.out (by simp) (by simp)⟩
  | false =>
    have f3 := (FA.out w2 F2.out).2
    have b2 : Bytes (w2.setCell ⟨qb, 1, none⟩ (.int .i64 6)) a ((l.drop 4).take z) := by
      obtain ⟨h1, h2, h3⟩ := BB.out
      refine ⟨h1, h2, ?_⟩
      rcases h3 with h3 | ⟨b, off, ha, h3⟩
      · exact .inl h3
      · exact .inr ⟨b, off, ha, fun i hi => frm_at f3 (frm_at F2.out (h3 i hi) (by simp)) (by have := NEQ.out (fun h0 => by rw [h0] at hi; simp at hi) ⟨b, off, none⟩ ha; simpa using this)⟩
    have hcv2 := hcv _ b2
    have HV := Lib.hid hv
    clear hcv b2 hv f3
    go_wp2
    go_ret
    exact .inr ⟨HV.out, _, rfl, (FA.out w2 F2.out).1, (F.out.trans F2.out (U := [qb]) (by simp) (by simp)).trans (FA.out w2 F2.out).2 (by simp) (by simp)⟩

set_option maxHeartbeats 1000000 in
theorem rtext_none {w : World} {rb cb : Nat} (h : Calls Tryd.prog 65 #[.pointer (some ⟨rb, 0, none⟩)] w (Thrown w rb cb 4)) :
    Calls Tryd.prog 52 #[.pointer (some ⟨rb, 0, none⟩)] w (Thrown w rb cb 4) := by
  have HN := Lib.hid h
  clear h
  go_enter Tryd.func52, Tryd.ntmps52
  go_wp2_with fail
  refine HN.out.mono ?_
  rintro e w' ⟨rfl, h1, h2⟩
  exact ⟨rfl, rfl, h1, h2⟩

set_option maxHeartbeats 2000000 in
theorem rtext_some {V : List Nat → Bool} (hV : VOk V) {w : World} {rb cb db : Nat} {l : List Nat} (h : Rdr w rb cb db l) (hT : Tabs w) (hB : 2 ≤ rb) (hl : 4 ≤ l.length) (hdb : db < w.heap.size) (z : Nat) (hz : val (l.take 4) = z) (hn : z ≤ l.length - 4) (hfit : l.length ≤ 100000) :
    Calls Tryd.prog 52 #[.pointer (some ⟨rb, 0, none⟩)] w (fun e w' => (V ((l.drop 4).take z) = true ∧ e = .returned (.string (strOf ((l.drop 4).take z))) ∧ Rdr w' rb cb db (l.drop (4 + z)) ∧ Frm [rb] w w') ∨ (V ((l.drop 4).take z) = false ∧ Thrown w rb cb 6 e w')) := by
  have HN := Lib.hid (counted_ok h hl hdb z hz hn)
  have HL : Hid (z = ((l.drop 4).take z).length) := by show z = _; simp; omega
  have TB := Lib.hid hT
  have HB2 := Lib.hid hB
  have hzf : z ≤ 140737488355328 := by omega
  clear h hl hz hn hT hB hdb
  go_enter Tryd.func52, Tryd.ntmps52
  go_wp2_with fail
  refine HN.out.mono ?_
  rintro e w1 ⟨a, cap, rfl, hb, hc, _, _, _, hr, hf⟩
  have TB1 : Hid (Tabs w1) := TB.out.keep hf (fun x hx => by simp at hx; rw [hx]; exact HB2.out)
  have BB := Lib.hid hb
  have R := Lib.hid hr
  have F := Lib.hid hf
  clear hb hr hf
  go_wp2_with fail
  refine (valid_V hV BB.out HL.out hc hzf TB1.out).mono ?_
  rintro e w2 ⟨rfl, hf2⟩
  have F2 := Lib.hid hf2
  have R2 : Hid (Rdr w2 rb cb db (l.drop (4 + z))) := R.out.keep hf2 (by simp) (by simp) (by simp)
  have hcv2 := run_to_string (P := Tryd.prog) (src := 22) (dst := 9) (e := 5) Tryd.underlying22 Tryd.underlying5 Tryd.underlying9 (n := z) (c := cap) (F2.out.bytes BB.out (by simp)) HL.out
  clear hf2
  cases hv : V ((l.drop 4).take z) with
  | true =>
    have HV := Lib.hid hv
    clear hv
    go_wp2
    go_ret
    exact .inl ⟨HV.out, rfl, R2.out, F.out.trans F2.out (by simp) (by simp)⟩
  | false =>
    have HV := Lib.hid hv
    clear hv hcv2
    go_wp2_with fail
    refine (throw_any 6 R2.out).mono ?_
    rintro e w3 ⟨rfl, h1, h2⟩
    exact ⟨rfl, .inr ⟨HV.out, Thrown.early ⟨rfl, h1, h2⟩ (F.out.trans F2.out (by simp) (by simp))⟩⟩

theorem rfail_some {w : World} {rb cb db : Nat} {l : List Nat} (c : Nat) (h : Rdr w rb cb db l) (hc : c ≠ 0) :
    Calls Tryd.prog 36 #[.pointer (some ⟨rb, 0, none⟩), .int .i64 c] w (Thrown w rb cb c) := by
  have H := Lib.hid h
  have hne : ((c : Int) == 0) = false := by simp; omega
  have hne2 : ((c : Int) != 0) = true := by simp; omega
  clear h hc
  go_enter Tryd.func36, Tryd.ntmps36
  go_wp2_with fail
  refine (reads_any H.out).mono ?_
  rintro e w' ⟨rfl, rfl⟩
  go_wp2_with fail
  refine (throw_any c H.out).mono ?_
  rintro e w3 ⟨rfl, h1, h2⟩
  exact ⟨rfl, rfl, h1, h2⟩
end Go.Proofs.YtahhkffghhgojaaDoor
/- A slice of bytes at the head of a block of the call's own, with spare room or without (Hd); what appending to it leaves, in a plain region and in one that draws its order. They speak of no program. -/
namespace Go.Proofs.YtahhkffghhgojaaDoor
open Go.RowKit

/-- The block that a slice lies in, if it has one. -/
def blk (a : Option Addr) : List Nat := (a.map (·.block)).toList
@[simp] theorem blk_none : blk none = [] := rfl
@[simp] theorem blk_some (x : Addr) : blk (some x) = [x.block] := rfl
theorem mem_blk {a : Option Addr} {g : Nat} : g ∈ blk a ↔ ∃ x, a = some x ∧ x.block = g := by
  cases a with
  | none => simp
  | some y => simp; exact ⟨fun h => h.symm, fun h => h.symm⟩

/-- The slice at a, of capacity cap, is the bytes l: nil, or the head of a block from B on. -/
def Hd (w : World) (B : Nat) (e : TypeId) (a : Option Addr) (cap : Nat) (l : List Nat) : Prop :=
  (a = none ∧ l = [] ∧ cap = 0) ∨
  ∃ g cur, a = some ⟨g, 0, none⟩ ∧ B ≤ g ∧ w.heap[g]? = some (.cells cur e (0, 0)) ∧ l.length ≤ cap ∧ cap ≤ maxLen ∧ cap ≤ cur.size ∧ cur.toList.take l.length = l.map u8v

section
variable {w w' : World} {B : Nat} {e : TypeId} {a : Option Addr} {cap : Nat} {l : List Nat}
theorem Hd.nil (w : World) (B : Nat) (e : TypeId) : Hd w B e none 0 [] := .inl ⟨rfl, rfl, rfl⟩
theorem Hd.cap_le (h : Hd w B e a cap l) : l.length ≤ cap ∧ cap ≤ maxLen := by
  rcases h with ⟨_, rfl, rfl⟩ | ⟨g, cur, _, _, _, h1, h2, _⟩
  · simp
  · exact ⟨h1, h2⟩
theorem Hd.blk_lt (h : Hd w B e a cap l) : ∀ g ∈ blk a, B ≤ g ∧ g < w.heap.size := by
  intro x hx
  rcases h with ⟨rfl, _⟩ | ⟨g, cur, rfl, hb, hg, _⟩
  · simp at hx
  · simp at hx; subst hx; exact ⟨hb, lt_of_block hg⟩
theorem Hd.cellAt {g : Nat} (h : Hd w B e (some ⟨g, 0, none⟩) cap l) {i : Nat} (hi : i < l.length) : w.cell? ⟨g, i, none⟩ = some (u8v (l.getD i 0)) := by
  rcases h with ⟨h, _⟩ | ⟨g', cur, h, hb, hg, h1, h2, h3, ht⟩
  · cases h
  · cases h
    rw [cell_of_row w g i cur e (0, 0) hg]
    have e1 : (cur.toList.take l.length)[i]? = some (u8v (l.getD i 0)) := by rw [ht, getD_map_u8v hi]
    rw [List.getElem?_take, if_pos hi] at e1
    simpa using e1
theorem Hd.frozenAt {g : Nat} (h : Hd w B e (some ⟨g, 0, none⟩) cap l) (i : Nat) : w.frozen? ⟨g, i, none⟩ = false := by
  rcases h with ⟨h, _⟩ | ⟨g', cur, h, hb, hg, h1, h2, h3, ht⟩
  · cases h
  · cases h
    exact frozen_of_row w g i cur e hg
theorem Hd.bytes (h : Hd w B e a cap l) (h8 : ∀ c ∈ l, c < 256) : Bytes w a l := by
  have hc := h.cap_le
  unfold maxLen at hc
  refine ⟨h8, by omega, ?_⟩
  rcases h with ⟨_, rfl, _⟩ | ⟨g, cur, rfl, hb, hg, h1, h2, h3, ht⟩
  · exact .inl rfl
  · right
    refine ⟨g, 0, rfl, fun i hi => ?_⟩
    rw [Nat.zero_add]
    exact Hd.cellAt (.inr ⟨g, cur, rfl, hb, hg, h1, h2, h3, ht⟩) hi
theorem Hd.keep {S : List Nat} (h : Hd w B e a cap l) (hf : Frm S w w') (hn : ∀ g ∈ blk a, g ∉ S) : Hd w' B e a cap l := by
  rcases h with h | ⟨g, cur, rfl, hb, hg, h1⟩
  · exact .inl h
  · exact .inr ⟨g, cur, rfl, hb, by rw [hf.block g (lt_of_block hg) (hn g (by simp))]; exact hg, h1⟩
/-- The head of a slice, without spare room. -/
theorem Hd.tight (h : Hd w B e a cap l) (n : Nat) (hn : n ≤ l.length) : Hd w B e a n (l.take n) := by
  rcases h with ⟨rfl, rfl, rfl⟩ | ⟨g, cur, rfl, hb, hg, h1, h2, h3, ht⟩
  · have : n = 0 := by simpa using hn
    subst this; exact .inl ⟨rfl, rfl, rfl⟩
  · refine .inr ⟨g, cur, rfl, hb, hg, by simp; omega, by omega, by omega, ?_⟩
    have e1 : (l.take n).length = n := by simp; omega
    rw [e1, List.map_take, ← ht, List.take_take]
    congr 1; omega
/-- A byte of it is stored anew. -/
theorem Hd.put {g : Nat} (h : Hd w B e (some ⟨g, 0, none⟩) cap l) (i c : Nat) : Hd (w.setCell ⟨g, i, none⟩ (u8v c)) B e (some ⟨g, 0, none⟩) cap (l.set i c) := by
  rcases h with ⟨h, _⟩ | ⟨g', cur, h, hb, hg, h1, h2, h3, ht⟩
  · cases h
  · cases h
    refine .inr ⟨g, cur.setIfInBounds i (u8v c), rfl, hb, heap_setCell_same w g i cur e (u8v c) hg, by simpa using h1, h2, by simpa using h3, ?_⟩
    rw [List.length_set, Array.toList_setIfInBounds, List.take_set, ht, List.map_set]
end

section
variable {P : Program} {w : World}
/-- What appending the bytes b to such a slice leaves. -/
structure HApp (w w' : World) (B : Nat) (e : TypeId) (a : Option Addr) (l b : List Nat) (a' : Option Addr) (cap' : Nat) : Prop where
  head : Hd w' B e a' cap' (l ++ b)
  frm : Frm (blk a) w w'
  place : ∀ g ∈ blk a', g ∈ blk a ∨ w.heap.size ≤ g

end

section
variable {P : Program} {t e : TypeId}
theorem head_map (a : Option Addr) : a.map (·.add 0) = a := by
  cases a with
  | none => rfl
  | some x => simp [Addr.add]
end
end Go.Proofs.YtahhkffghhgojaaDoor
/- Rows of one-cell values that the call made itself; appending values to them. Slices of slices of bytes: what they read as (LL), rows of the call's own (OwnL), and what stays of them. They speak of no program. -/
namespace Go.Proofs.YtahhkffghhgojaaDoor
open Go.RowKit

/-- These values lie there, cell by cell. -/
def ValsAt (w : World) (x : Option Addr) (us : List Value) : Prop := us = [] ∨ ∃ b off, x = some ⟨b, off, none⟩ ∧ ∀ i u, us[i]? = some u → w.cell? ⟨b, off + i, none⟩ = some u
theorem ValsAt.nil (w : World) (x : Option Addr) : ValsAt w x [] := .inl rfl
theorem ValsAt.one (w : World) (v : Value) (t : TypeId) : ValsAt (w.alloc (.cells #[v] t)) (some ⟨w.heap.size, 0, none⟩) [v] := by
  refine .inr ⟨_, _, rfl, fun i u hu => ?_⟩
  rw [(Whole.made w t #[v]).cell]
  rw [Nat.zero_add]
  simpa using hu
theorem ValsAt.keep {S : List Nat} {w w' : World} {x : Option Addr} {us : List Value} (h : ValsAt w x us) (hf : Frm S w w') (hn : us ≠ [] → ∀ y, x = some y → y.block ∉ S) : ValsAt w' x us := by
  rcases h with h | ⟨b, off, rfl, hc⟩
  · exact .inl h
  · by_cases h0 : us = []
    · exact .inl h0
    · refine .inr ⟨b, off, rfl, fun i u hu => ?_⟩
      have e := hc i u hu
      exact (hf.cell (p := ⟨b, off + i, none⟩) (block_lt_of_cell e) (hn h0 ⟨b, off, none⟩ rfl)).trans e

section
variable {P : Program} {w : World}
/-- What appending the values us to an owned value leaves. -/
structure AppV (w w' : World) (base : Nat) (e : TypeId) (v : Value) (n m : Nat) (xs us : List Value) (a' : Option Addr) (cap' : Nat) : Prop where
  own : w'.ownsRow base e 1 (.slice a' (n + m) cap') (n + m) (xs ++ us)
  grown : w.grownBy w' v.ownBlock
  place : (Value.slice a' (n + m) cap').ownBlock = v.ownBlock ∨ (Value.slice a' (n + m) cap').ownBlock = some w.heap.size

end

/-- Values that are slices of bytes, and what they read as; what isn't empty lies outside the blocks F. -/
structure Ents (w : World) (F : List Nat) (vs : List Value) (L : List (List Nat)) : Prop where
  len : vs.length = L.length
  ent : ∀ i, i < L.length → ∃ a cap, vs[i]? = some (.slice a (L.getD i []).length cap) ∧ Bytes w a (L.getD i []) ∧ (L.getD i [] ≠ [] → ∀ x, a = some x → x.block ∉ F) ∧ (a = none → cap = 0)
theorem Ents.nil (w : World) (F : List Nat) : Ents w F [] [] := ⟨rfl, fun i h => absurd h (by simp)⟩
theorem Ents.keep {w w' : World} {F F' S : List Nat} {vs : List Value} {L : List (List Nat)} (h : Ents w F vs L) (hf : Frm S w w') (hS : ∀ x ∈ S, x ∈ F ∨ w.heap.size ≤ x) (hF : ∀ x ∈ F', x ∈ F ∨ w.heap.size ≤ x) : Ents w' F' vs L := by
  refine ⟨h.len, fun i hi => ?_⟩
  obtain ⟨a, cap, h1, h2, h3, h4⟩ := h.ent i hi
  refine ⟨a, cap, h1, hf.bytes' h2 (fun hne x hx hm => ?_), fun hne x hx hm => ?_, h4⟩
  · rcases hS _ hm with h | h
    · exact h3 hne x hx h
    · have := bytes_lt h2 hne x hx; omega
  · rcases hF _ hm with h | h
    · exact h3 hne x hx h
    · have := bytes_lt h2 hne x hx; omega
theorem Ents.append {w : World} {F : List Nat} {vs us : List Value} {L M : List (List Nat)} (h : Ents w F vs L) (k : Ents w F us M) : Ents w F (vs ++ us) (L ++ M) := by
  refine ⟨by simp [h.len, k.len], fun i hi => ?_⟩
  by_cases hl : i < L.length
  · obtain ⟨a, cap, h1, h2, h3⟩ := h.ent i hl
    have e : (L ++ M).getD i [] = L.getD i [] := by simp [List.getD, List.getElem?_append, hl]
    rw [e]
    exact ⟨a, cap, by rw [List.getElem?_append_left (by rw [h.len]; exact hl)]; exact h1, h2, h3⟩
  · rw [List.length_append] at hi
    obtain ⟨a, cap, h1, h2, h3⟩ := k.ent (i - L.length) (by omega)
    have e : (L ++ M).getD i [] = M.getD (i - L.length) [] := by simp [List.getD, List.getElem?_append, hl]
    rw [e]
    exact ⟨a, cap, by rw [List.getElem?_append_right (by rw [h.len]; omega), h.len]; exact h1, h2, h3⟩
theorem Ents.take {w : World} {F : List Nat} {vs : List Value} {L : List (List Nat)} (h : Ents w F vs L) (k : Nat) : Ents w F (vs.take k) (L.take k) := by
  refine ⟨by simp [h.len], fun i hi => ?_⟩
  rw [List.length_take] at hi
  obtain ⟨a, cap, h1, h2, h3⟩ := h.ent i (by omega)
  have e : (L.take k).getD i [] = L.getD i [] := by simp [List.getD, show i < k by omega]
  rw [e]
  exact ⟨a, cap, by rw [List.getElem?_take, if_pos (by omega)]; exact h1, h2, h3⟩

/-- A slice of slices of bytes, as it reads; neither it nor what is in it (if it isn't empty) lies in the blocks F. -/
def LL (w : World) (F : List Nat) (a : Option Addr) (L : List (List Nat)) : Prop :=
  ∃ vs, ValsAt w a vs ∧ Ents w F vs L ∧ (L ≠ [] → ∀ x, a = some x → x.block ∉ F)
theorem LL.keep {w w' : World} {F F' S : List Nat} {a : Option Addr} {L : List (List Nat)} (h : LL w F a L) (hf : Frm S w w') (hS : ∀ x ∈ S, x ∈ F ∨ w.heap.size ≤ x) (hF : ∀ x ∈ F', x ∈ F ∨ w.heap.size ≤ x) : LL w' F' a L := by
  obtain ⟨vs, h1, h2, h3⟩ := h
  have hlt : L ≠ [] → ∀ x, a = some x → x.block < w.heap.size := by
    intro h0 x hx
    have h0' : vs ≠ [] := by intro e; have := h2.len; rw [e] at this; exact h0 (List.eq_nil_of_length_eq_zero this.symm)
    rcases h1 with h | ⟨b, off, rfl, hc⟩
    · exact absurd h h0'
    · cases hx
      cases vs with
      | nil => exact absurd rfl h0'
      | cons v vs => exact block_lt_of_cell (a := ⟨b, off + 0, none⟩) (hc 0 v rfl)
  have hvs : vs ≠ [] → L ≠ [] := by intro h0 e; have := h2.len; rw [e] at this; exact h0 (List.eq_nil_of_length_eq_zero this)
  refine ⟨vs, h1.keep hf (fun h0 x hx hm => ?_), h2.keep hf hS hF, fun h0 x hx hm => ?_⟩
  · rcases hS _ hm with h | h
    · exact h3 (hvs h0) x hx h
    · have := hlt (hvs h0) x hx; omega
  · rcases hF _ hm with h | h
    · exact h3 h0 x hx h
    · have := hlt h0 x hx; omega
theorem LL.take {w : World} {F : List Nat} {a : Option Addr} {L : List (List Nat)} (h : LL w F a L) (k : Nat) : LL w F a (L.take k) := by
  obtain ⟨vs, h1, h2, h3⟩ := h
  refine ⟨vs.take k, ?_, h2.take k, fun h0 => h3 (by rintro rfl; simp at h0)⟩
  rcases h1 with h | ⟨b, off, rfl, hc⟩
  · exact .inl (by rw [h]; simp)
  · refine .inr ⟨b, off, rfl, fun i u hu => hc i u ?_⟩
    rw [List.getElem?_take] at hu
    split at hu
    · exact hu
    · cases hu
/-- One of them. -/
theorem LL.at {w : World} {F : List Nat} {a : Option Addr} {L : List (List Nat)} (h : LL w F a L) {i : Nat} (hi : i < L.length) :
    ∃ b off, a = some ⟨b, off, none⟩ ∧ ∃ ai ci, w.cell? ⟨b, off + i, none⟩ = some (.slice ai (L.getD i []).length ci) ∧ Bytes w ai (L.getD i []) ∧ (L.getD i [] ≠ [] → ∀ x, ai = some x → x.block ∉ F) ∧ (ai = none → ci = 0) := by
  obtain ⟨vs, h1, h2, h3⟩ := h
  obtain ⟨ai, ci, e1, e2, e3⟩ := h2.ent i hi
  rcases h1 with h | ⟨b, off, rfl, hc⟩
  · rw [h] at e1; simp at e1
  · exact ⟨b, off, rfl, ai, ci, hc i _ e1, e2, e3⟩
theorem LL.byte {w : World} {F : List Nat} {a : Option Addr} {L : List (List Nat)} (h : LL w F a L) {l : List Nat} (hl : l ∈ L) : ∀ c ∈ l, c < 256 := by
  obtain ⟨i, hi, rfl⟩ := List.getElem_of_mem hl
  obtain ⟨_, _, _, _, _, _, hb, _⟩ := h.at hi
  simpa [List.getD, hi] using hb.1

/-- A row of the call's own of slices of bytes. -/
structure OwnL (w : World) (base : Nat) (e : TypeId) (F : List Nat) (a : Option Addr) (cap : Nat) (L : List (List Nat)) (vs : List Value) : Prop where
  own : w.ownsRow base e 1 (.slice a L.length cap) L.length vs
  ents : Ents w (blk a ++ F) vs L
  away : ∀ g ∈ blk a, g ∉ F
section
variable {w w' : World} {base : Nat} {e : TypeId} {F F' S : List Nat} {a : Option Addr} {cap : Nat} {L : List (List Nat)} {vs : List Value}
theorem OwnL.nil (w : World) (base : Nat) (e : TypeId) (F : List Nat) : OwnL w base e F none 0 [] [] := ⟨World.ownsRow_nil _ _ _ _, Ents.nil _ _, by simp⟩
theorem OwnL.blk_lt (h : OwnL w base e F a cap L vs) : ∀ g ∈ blk a, base ≤ g ∧ g < w.heap.size := by
  intro g hg
  obtain ⟨x, rfl, rfl⟩ := mem_blk.1 hg
  exact World.ownsRow.lt h.own x.block rfl
theorem OwnL.keep (h : OwnL w base e F a cap L vs) (hf : Frm S w w') (hS : ∀ x ∈ S, x ∈ F ∨ w.heap.size ≤ x) (hF : ∀ x ∈ F', x ∈ F ∨ w.heap.size ≤ x) : OwnL w' base e F' a cap L vs := by
  have hb := h.blk_lt
  refine ⟨hf.own h.own (fun g hg hm => ?_), h.ents.keep hf (fun x hx => ?_) (fun x hx => ?_), fun g hg hm => ?_⟩
  · have hg' : g ∈ blk a := by
      cases a with
      | none => simp [Value.ownBlock] at hg
      | some y => simpa [Value.ownBlock, eq_comm] using hg
    rcases hS g hm with h1 | h1
    · exact h.away g hg' h1
    · have := (hb g hg').2; omega
  · rcases hS x hx with h1 | h1
    · exact .inl (by simp [h1])
    · exact .inr h1
  · rcases List.mem_append.1 hx with h1 | h1
    · exact .inl (by simp [h1])
    · rcases hF x h1 with h2 | h2
      · exact .inl (by simp [h2])
      · exact .inr h2
  · rcases hF g hm with h1 | h1
    · exact h.away g hg h1
    · have := (hb g hg).2; omega
theorem OwnL.ll (h : OwnL w base e F a cap L vs) : LL w F a L := by
  refine ⟨vs, ?_, h.ents.keep (S := []) (Frm.refl _ _) (by simp) (fun x hx => .inl (by simp [hx])), fun _ x hx => h.away x.block (by rw [hx]; simp)⟩
  by_cases h0 : vs = []
  · exact .inl h0
  · rcases h.own.2 with ⟨_, hl⟩ | ⟨g, c, cur, hv, _⟩
    · exact absurd (List.eq_nil_of_length_eq_zero (by rw [h.ents.len, hl])) h0
    · simp only [Value.slice.injEq] at hv
      obtain ⟨rfl, _, rfl⟩ := hv
      refine .inr ⟨g, 0, rfl, fun i u hu => ?_⟩
      have hi : i < vs.length := by
        rcases Nat.lt_or_ge i vs.length with h' | h'
        · exact h'
        · rw [List.getElem?_eq_none h'] at hu; cases hu
      rw [Nat.zero_add, World.ownsRow.cellAt h.own i (by rw [Nat.mul_one, ← h.ents.len]; exact hi)]
      exact hu
theorem OwnL.caps (h : OwnL w base e F a cap L vs) : L.length ≤ cap ∧ cap ≤ maxLen ∧ (a = none → cap = 0) := by
  rcases h.own.2 with ⟨hv, hl⟩ | ⟨g, c, cur, hv, _, _, h1, h2, _⟩
  · simp only [Value.slice.injEq] at hv
    rw [hl, hv.2.2]; exact ⟨Nat.le_refl _, Nat.zero_le _, fun _ => rfl⟩
  · simp only [Value.slice.injEq] at hv
    obtain ⟨rfl, _, rfl⟩ := hv
    exact ⟨h1, h2, fun h => by cases h⟩
/-- What is appended lies neither in the row's block nor in F. -/
theorem OwnL.app {n m : Nat} {us : List Value} {M : List (List Nat)} {a' : Option Addr} {cap' : Nat} (h : OwnL w base e F a cap L vs) (hn : n = L.length) (k : Ents w (blk a ++ F) us M) (hm : m = M.length) (hF : ∀ x ∈ F, x < w.heap.size)
    (ha : AppV w w' base e (.slice a n cap) n m vs us a' cap') : OwnL w' base e F a' cap' (L ++ M) (vs ++ us) ∧ Frm (blk a) w w' ∧ (∀ g ∈ blk a', g ∈ blk a ∨ w.heap.size ≤ g) ∧ n + m = (L ++ M).length := by
  subst hn; subst hm
  have hown : ∀ g, (Value.slice a L.length cap).ownBlock = some g → g ∈ blk a := by
    intro g hg
    cases a with
    | none => simp [Value.ownBlock] at hg
    | some y => simpa [Value.ownBlock, eq_comm] using hg
  have hf : Frm (blk a) w w' := (Frm.refl _ _).grown ha.grown (fun g hg => .inl (hown g hg))
  have hp : ∀ g ∈ blk a', g ∈ blk a ∨ w.heap.size ≤ g := by
    intro g hg
    have hg' : (Value.slice a' (L.length + M.length) cap').ownBlock = some g := by
      obtain ⟨x, rfl, rfl⟩ := mem_blk.1 hg
      rfl
    rcases ha.place with h1 | h1
    · exact .inl (hown g (h1 ▸ hg'))
    · rw [hg'] at h1
      cases h1
      exact .inr (Nat.le_refl _)
  refine ⟨⟨?_, ?_, fun g hg hm => ?_⟩, hf, hp, by simp⟩
  · have := ha.own
    rwa [List.length_append]
  · refine (h.ents.append k).keep hf (fun x hx => .inl (by simp [hx])) (fun x hx => ?_)
    rcases List.mem_append.1 hx with h1 | h1
    · rcases hp x h1 with h2 | h2
      · exact .inl (by simp [h2])
      · exact .inr h2
    · exact .inl (by simp [h1])
  · rcases hp g hg with h1 | h1
    · exact h.away g h1 hm
    · have := hF g hm; omega
end
/-- A slice of slices of bytes that came in. -/
structure LIn (w : World) (a : Option Addr) (cap : Nat) (L : List (List Nat)) : Prop where
  ll : LL w [] a L
  nil : a = none → cap = 0
/-- A slice of bools that came in. -/
def BIn (w : World) (a : Option Addr) (bs : List Bool) : Prop := ∀ i, i < bs.length → ∃ b off, a = some ⟨b, off, none⟩ ∧ w.cell? ⟨b, off + i, none⟩ = some (.bool (bs.getD i false))
theorem BIn.keep {w w' : World} {a : Option Addr} {bs : List Bool} (h : BIn w a bs) (hf : Frm [] w w') : BIn w' a bs := fun i hi => by
  obtain ⟨b, off, h1, h2⟩ := h i hi
  exact ⟨b, off, h1, (hf.cell (p := ⟨b, off + i, none⟩) (block_lt_of_cell h2) (by simp)).trans h2⟩
end Go.Proofs.YtahhkffghhgojaaDoor
