/- Contracts and mathematics that the proofs of this seat stand on: Elems, Nd, OwnVals, Sn, MtDef, Kl, RtAt, RtSame, TrMath, TrBase, TrConcat, TrAlone, TrStore, TrFind, TrPut, TrDel, TrDropF, TrGet, RtGet, RtDrop, TrList, TrPutNew, TrPutOld. -/
import Derived.Test.YtcbpppdmkhpkkaaGreatKB
import Derived.Test.YtcbpppdmkhpkkaaGreatKA
import Derived.Lib.Strings
import Derived.Lib.Bytealg
import Derived.WalkSpells
import Derived.Outline
import Derived.Deep.QuietTactic
import Derived.BigQuiet
import Derived.Lib.QuietBelow
import Derived.Deep.LoopGhost
import Derived.Lib.Walk
import Derived.Lib.AppendZerosOnto
import Derived.Lib.SliceRun
import Derived.Test.YtcbpppdmkhpkkaaGreatShelf
import Derived.Deep.RegionLaw
import Derived.IntWalk
/- Rows of the call's own of elements of several cells each; appending cells to them, also to a slice without spare room. They speak of no program. -/
namespace Go.Proofs.YtcbpppdmkhpkkaaGreat
open Go.RowKit

section
variable {P : Program} {w : World}
/-- What appending the cells us (m elements) to an owned value leaves. -/
structure AppS (w w' : World) (base : Nat) (e : TypeId) (sz : Nat) (v : Value) (n m : Nat) (xs us : List Value) (a' : Option Addr) (cap' : Nat) : Prop where
  own : w'.ownsRow base e sz (.slice a' (n + m) cap') (n + m) (xs ++ us)
  grown : w.grownBy w' v.ownBlock
  place : (Value.slice a' (n + m) cap').ownBlock = v.ownBlock ∨ (Value.slice a' (n + m) cap').ownBlock = some w.heap.size
theorem slice_shape {w : World} {base : Nat} {e : TypeId} {sz n : Nat} {v : Value} {xs : List Value} (h : w.ownsRow base e sz v n xs) : ∃ a cap, v = .slice a n cap := by
  rcases h.2 with ⟨hv, h0⟩ | ⟨g, cap', cur, hv, _⟩
  · exact ⟨none, 0, by rw [hv, h0]⟩
  · exact ⟨_, cap', hv⟩

theorem run_appS (base : Nat) (t ty e : TypeId) (i : TypeInfo) (z : Value) (sz by' : Nat) (ht : P.underlying t = some (.slice e)) (hi : P.info? e = some i) (hz : i.zero = some z) (hz1 : z.cells.size = sz) (hsz : 0 < sz)
    (hsize : i.size = sz) (hby : i.bytes = by') (hb : by' ≤ 100) (v : Value) (n : Nat) (xs : List Value) (hown : w.ownsRow base e sz v n xs)
    (ad : Option Addr) (m c : Nat) (us : List Value) (hB : ValsAt w ad us) (hm : us.length = m * sz) (hone : ∀ u ∈ us, u.oneCell' = true) (hnil : ad = none → c = 0)
    (hfit : n + m ≤ 1000000000) (hbase : base ≤ w.heap.size) :
    ∃ a' cap' w', (Builtin.append_ #[t, t] ty #[v, .slice ad m c]).run P w = .ok (.slice a' (n + m) cap') w' ∧ AppS w w' base e sz v n m xs us a' cap' := by
  cases ad with
  | none =>
    have hc0 := hnil rfl
    subst hc0
    have hl0 : us = [] := by
      rcases hB with h | ⟨_, _, h, _⟩
      · exact h
      · cases h
    subst hl0
    have hm0 : m = 0 := by
      rcases Nat.eq_zero_or_pos m with h | h
      · exact h
      · have := Nat.mul_pos h hsz; simp at hm; omega
    subst hm0
    obtain ⟨a', cap', hv⟩ := slice_shape hown
    subst hv
    exact ⟨a', cap', w, run_append_owned_none (P := P) (w := w) base t ty e i sz ht hi _ n xs hown, by simpa using hown, World.grownBy.refl _ _, .inl rfl⟩
  | some x =>
    have hnews : ∀ j u, us[j]? = some u → w.cell? (x.add j) = some u := by
      rcases hB with h | ⟨b, off, h, hh⟩
      · subst h; intro j u hu; simp at hu
      · cases h
        intro j u hu
        rw [addr_add]
        exact hh j u hu
    obtain ⟨v', w', hr, ho, hg, _, hpl⟩ := run_append_own_at (P := P) w base t ty e i z sz by' ht hi hz hsize hby hz1 hsz v n xs hown x m c us hm hnews hone (by unfold maxLen; omega)
      (by have := Nat.mul_le_mul hfit hb; omega) hbase
    obtain ⟨a', cap', hv⟩ := slice_shape ho
    subst hv
    exact ⟨a', cap', w', hr, ho, hg, hpl⟩

theorem wpList_appS {ops : Array Oper} {rest : List Oper} {o : Oper} {a : Act} {Q : Exit → Act → World → Prop} (hw : Region.wanted o (yielded ops a.tmps) = true) (s x : Operand) (t : TypeId)
    (ho : o.op = .call { callee := .builtin .append, args := #[s, x], argTypes := #[t, t] })
    (base : Nat) (e : TypeId) (i : TypeInfo) (z : Value) (sz by' : Nat) (ht : P.underlying t = some (.slice e)) (hi : P.info? e = some i) (hz : i.zero = some z) (hz1 : z.cells.size = sz) (hsz : 0 < sz)
    (hsize : i.size = sz) (hby : i.bytes = by') (hb : by' ≤ 100) (v : Value) (n : Nat) (xs : List Value) (hs : a.eval s = v) (hown : w.ownsRow base e sz v n xs)
    (ad : Option Addr) (m c : Nat) (us : List Value) (hx : a.eval x = .slice ad m c) (hB : ValsAt w ad us) (hm : us.length = m * sz) (hone : ∀ u ∈ us, u.oneCell' = true) (hnil : ad = none → c = 0)
    (hfit : n + m ≤ 1000000000) (hbase : base ≤ w.heap.size)
    (h : ∀ a' cap' w', AppS w w' base e sz v n m xs us a' cap' → wpList P ops Q rest (a.put o.dst (.slice a' (n + m) cap')) w') : wpList P ops Q (o :: rest) a w := by
  refine wpList_step fun K hK => ?_
  rw [if_pos hw]
  obtain ⟨a', cap', w', hr, h2⟩ := run_appS (P := P) base t o.type e i z sz by' ht hi hz hz1 hsz hsize hby hb v n xs hown ad m c us hB hm hone hnil hfit hbase
  unfold Oper.wp execOp
  simp only [ho, resolve, invoke, builtin, Sem.run_bind, Sem.run_pure, Result.andThen_ok, List.map_toArray, List.map_cons, List.map_nil, hs, hx, hr]
  exact hK _ _ (h a' cap' w' h2)

theorem step_appS {ops : Array Oper} {o : Oper} {a : Act} {K : Act → World → Prop} {Q : Exit → Act → World → Prop} {E : Prop} (hw : Region.wanted o (yielded ops a.tmps) = true) (s x : Operand) (t : TypeId)
    (ho : o.op = .call { callee := .builtin .append, args := #[s, x], argTypes := #[t, t] })
    (base : Nat) (e : TypeId) (i : TypeInfo) (z : Value) (sz by' : Nat) (ht : P.underlying t = some (.slice e)) (hi : P.info? e = some i) (hz : i.zero = some z) (hz1 : z.cells.size = sz) (hsz : 0 < sz)
    (hsize : i.size = sz) (hby : i.bytes = by') (hb : by' ≤ 100) (v : Value) (n : Nat) (xs : List Value) (hs : a.eval s = v) (hown : w.ownsRow base e sz v n xs)
    (ad : Option Addr) (m c : Nat) (us : List Value) (hx : a.eval x = .slice ad m c) (hB : ValsAt w ad us) (hm : us.length = m * sz) (hone : ∀ u ∈ us, u.oneCell' = true) (hnil : ad = none → c = 0)
    (hfit : n + m ≤ 1000000000) (hbase : base ≤ w.heap.size) (k : Nat) (hk : n + m = k)
    (h : ∀ a' cap' w', AppS w w' base e sz v n m xs us a' cap' → K (a.put o.dst (.slice a' k cap')) w') :
    if Region.wanted o (yielded ops a.tmps) = true then Oper.wp P o a w K Q else E := by
  subst hk
  rw [if_pos hw]
  obtain ⟨a', cap', w', hr, h2⟩ := run_appS (P := P) base t o.type e i z sz by' ht hi hz hz1 hsz hsize hby hb v n xs hown ad m c us hB hm hone hnil hfit hbase
  unfold Oper.wp execOp
  simp only [ho, resolve, invoke, builtin, Sem.run_bind, Sem.run_pure, Result.andThen_ok, List.map_toArray, List.map_cons, List.map_nil, hs, hx, hr]
  exact h a' cap' w' h2

/-- Appending something to a slice without spare room: a row of the call's own, the slice as it was. -/
theorem run_appT (base : Nat) (t ty e : TypeId) (i : TypeInfo) (z : Value) (sz by' : Nat) (ht : P.underlying t = some (.slice e)) (hi : P.info? e = some i) (hz : i.zero = some z) (hz1 : z.cells.size = sz) (hsz : 0 < sz)
    (hsize : i.size = sz) (hby : i.bytes = by') (hb : by' ≤ 100) (sa : Option Addr) (n : Nat) (xs : List Value) (hS : ValsAt w sa xs) (hxn : xs.length = n * sz)
    (ad : Option Addr) (m c : Nat) (us : List Value) (hB : ValsAt w ad us) (hm : us.length = m * sz) (hone : ∀ u ∈ us, u.oneCell' = true) (hm0 : 0 < m)
    (hfit : n + m ≤ 1000000000) (hbase : base ≤ w.heap.size) (hnil : sa = none → n = 0) :
    ∃ a' cap' w', (Builtin.append_ #[t, t] ty #[.slice sa n n, .slice ad m c]).run P w = .ok (.slice a' (n + m) cap') w' ∧ w'.ownsRow base e sz (.slice a' (n + m) cap') (n + m) (xs ++ us) ∧ Frm [] w w' ∧ ∀ g ∈ blk a', w.heap.size ≤ g := by
  have hune : us ≠ [] := by
    intro h0
    have := Nat.mul_pos hm0 hsz
    rw [h0] at hm; simp at hm; omega
  obtain ⟨b, off, rfl, hh⟩ : ∃ b off, ad = some ⟨b, off, none⟩ ∧ ∀ i u, us[i]? = some u → w.cell? ⟨b, off + i, none⟩ = some u := by
    rcases hB with h | h
    · exact absurd h hune
    · exact h
  have hnews : ∀ j u, us[j]? = some u → w.cell? ((⟨b, off, none⟩ : Addr).add j) = some u := fun j u hu => by rw [addr_add]; exact hh j u hu
  cases sa with
  | none =>
    have hn0 := hnil rfl
    subst hn0
    have hx0 : xs = [] := List.eq_nil_of_length_eq_zero (by simpa using hxn)
    subst hx0
    obtain ⟨a', cap', w', hr, h⟩ := run_appS (P := P) base t ty e i z sz by' ht hi hz hz1 hsz hsize hby hb (.slice none 0 0) 0 [] (World.ownsRow_nil w base e sz) (some ⟨b, off, none⟩) m c us (.inr ⟨b, off, rfl, hh⟩) hm hone (fun h => by cases h) hfit hbase
    refine ⟨a', cap', w', hr, h.own, (Frm.refl _ _).grown h.grown (fun k hk => by simp [Value.ownBlock] at hk), fun g hg => ?_⟩
    obtain ⟨y, rfl, rfl⟩ := mem_blk.1 hg
    rcases h.place with h | h <;> simp [Value.ownBlock] at h
    omega
  | some y =>
    have holds : ∀ j u, xs[j]? = some u → w.cell? (y.add j) = some u := by
      rcases hS with h | ⟨b', off', h, hc⟩
      · subst h; intro j u hu; simp at hu
      · cases h
        intro j u hu
        rw [addr_add]
        exact hc j u hu
    obtain ⟨v', w', hr, ho, hgr⟩ := run_append_arg_grows (P := P) w t ty e i z sz by' ht hi hz hsize hby hz1 hsz y n n xs hxn holds ⟨b, off, none⟩ m c us hm hnews (by omega) (by unfold maxLen; omega) (by have := Nat.mul_le_mul hfit hb; omega)
    obtain ⟨a', cap', hv⟩ := slice_shape ho
    subst hv
    have hlt := World.ownsRow.lt ho
    refine ⟨a', cap', w', hr, ⟨ho.1, ?_⟩, (Frm.refl _ _).grown hgr (fun k hk => by cases hk), fun g hg => ?_⟩
    · rcases ho.2 with h | ⟨g, cap, cur, hv, hb', r⟩
      · exact .inl h
      · exact .inr ⟨g, cap, cur, hv, by omega, r⟩
    · obtain ⟨q, rfl, rfl⟩ := mem_blk.1 hg
      exact (hlt q.block rfl).1

theorem step_appT {ops : Array Oper} {o : Oper} {a : Act} {K : Act → World → Prop} {Q : Exit → Act → World → Prop} {E : Prop} (hw : Region.wanted o (yielded ops a.tmps) = true) (s x : Operand) (t : TypeId)
    (ho : o.op = .call { callee := .builtin .append, args := #[s, x], argTypes := #[t, t] })
    (base : Nat) (e : TypeId) (i : TypeInfo) (z : Value) (sz by' : Nat) (ht : P.underlying t = some (.slice e)) (hi : P.info? e = some i) (hz : i.zero = some z) (hz1 : z.cells.size = sz) (hsz : 0 < sz)
    (hsize : i.size = sz) (hby : i.bytes = by') (hb : by' ≤ 100) (sa : Option Addr) (n : Nat) (xs : List Value) (hs : a.eval s = .slice sa n n) (hS : ValsAt w sa xs) (hxn : xs.length = n * sz)
    (ad : Option Addr) (m c : Nat) (us : List Value) (hx : a.eval x = .slice ad m c) (hB : ValsAt w ad us) (hm : us.length = m * sz) (hone : ∀ u ∈ us, u.oneCell' = true) (hm0 : 0 < m)
    (hfit : n + m ≤ 1000000000) (hbase : base ≤ w.heap.size) (hnil : sa = none → n = 0) (k : Nat) (hk : n + m = k)
    (h : ∀ a' cap' w', w'.ownsRow base e sz (.slice a' k cap') k (xs ++ us) → Frm [] w w' → (∀ g ∈ blk a', w.heap.size ≤ g) → K (a.put o.dst (.slice a' k cap')) w') :
    if Region.wanted o (yielded ops a.tmps) = true then Oper.wp P o a w K Q else E := by
  subst hk
  rw [if_pos hw]
  obtain ⟨a', cap', w', hr, h2, h3, h4⟩ := run_appT (P := P) base t o.type e i z sz by' ht hi hz hz1 hsz hsize hby hb sa n xs hS hxn ad m c us hB hm hone hm0 hfit hbase hnil
  unfold Oper.wp execOp
  simp only [ho, resolve, invoke, builtin, Sem.run_bind, Sem.run_pure, Result.andThen_ok, List.map_toArray, List.map_cons, List.map_nil, hs, hx, hr]
  exact h a' cap' w' h2 h3 h4
end
end Go.Proofs.YtcbpppdmkhpkkaaGreat
/- Lists of nodes (a key, a value, a version, an owner): what they read as, rows of the call's own of them. -/
namespace Go.Proofs.YtcbpppdmkhpkkaaGreat
open Go.RowKit

/-- A node. -/
structure Nd where
  k : ByteArray := ⟨#[]⟩
  v : List Nat := []
  ver : Nat := 0
  own : Nat := 0
/-- A node, and where its value lies. -/
structure Nx where
  t : Nd := {}
  a : Option Addr := none
  c : Nat := 0
instance : Inhabited Nx := ⟨{}⟩
theorem nx_default : (default : Nx) = ⟨⟨⟨#[]⟩, [], 0, 0⟩, none, 0⟩ := rfl
def Nx.cells (x : Nx) : List Value := [.string x.t.k, .slice x.a x.t.v.length x.c, .int .u64 (x.t.ver : Nat), .int .u64 (x.t.own : Nat)]
def nc (X : List Nx) : List Value := X.flatMap Nx.cells
theorem nc_append (X Y : List Nx) : nc (X ++ Y) = nc X ++ nc Y := by simp [nc]
theorem nc_cons (x : Nx) (X : List Nx) : nc (x :: X) = x.cells ++ nc X := rfl
theorem nc_length (X : List Nx) : (nc X).length = X.length * 4 := by
  induction X with
  | nil => rfl
  | cons x X ih => rw [nc_cons, List.length_append, ih, List.length_cons]; simp [Nx.cells]; omega
theorem nc_one (X : List Nx) : ∀ u ∈ nc X, u.oneCell' = true := by
  intro u hu
  unfold nc at hu
  simp only [List.mem_flatMap, Nx.cells] at hu
  obtain ⟨x, _, h⟩ := hu
  simp at h
  rcases h with h | h | h | h <;> subst h <;> rfl
theorem nc_at (X : List Nx) : ∀ i, i < X.length → (nc X)[i * 4]? = some (.string (X.getD i default).t.k) ∧ (nc X)[i * 4 + 1]? = some (.slice (X.getD i default).a (X.getD i default).t.v.length (X.getD i default).c) ∧
    (nc X)[i * 4 + 2]? = some (.int .u64 ((X.getD i default).t.ver : Nat)) ∧ (nc X)[i * 4 + 3]? = some (.int .u64 ((X.getD i default).t.own : Nat)) := by
  induction X with
  | nil => intro i hi; simp at hi
  | cons x X ih =>
    intro i hi
    have e : nc (x :: X) = .string x.t.k :: .slice x.a x.t.v.length x.c :: .int .u64 (x.t.ver : Nat) :: .int .u64 (x.t.own : Nat) :: nc X := rfl
    rw [e]
    rcases i with _ | i
    · exact ⟨rfl, rfl, rfl, rfl⟩
    · have := ih i (by simpa using hi)
      have h1 : (i + 1) * 4 = i * 4 + 1 + 1 + 1 + 1 := by omega
      rw [h1]
      simpa using this
theorem nc_take (X : List Nx) (n : Nat) : nc (X.take n) = (nc X).take (n * 4) := by
  induction X generalizing n with
  | nil => simp [nc]
  | cons x X ih =>
    rcases n with _ | n
    · simp [nc]
    · rw [List.take_succ_cons, nc_cons, nc_cons, ih, show (n + 1) * 4 = x.cells.length + n * 4 by simp [Nx.cells]; omega, List.take_length_add_append]
theorem nc_drop (X : List Nx) (n : Nat) : nc (X.drop n) = (nc X).drop (n * 4) := by
  induction X generalizing n with
  | nil => simp [nc]
  | cons x X ih =>
    rcases n with _ | n
    · simp [nc]
    · rw [List.drop_succ_cons, nc_cons, ih, show (n + 1) * 4 = x.cells.length + n * 4 by simp [Nx.cells]; omega, ← List.drop_drop, List.drop_left' rfl]

/-- What a node is known by: its value's bytes, outside the blocks F; numbers that fit. -/
structure NxOk (w : World) (F : List Nat) (x : Nx) : Prop where
  bytes : Bytes w x.a x.t.v
  away : x.t.v ≠ [] → ∀ q, x.a = some q → q.block ∉ F
  nil : x.a = none → x.c = 0
  ver : x.t.ver < 18446744073709551616
  own : x.t.own < 18446744073709551616
  key : x.t.k.size ≤ 9223372036854775807
theorem NxOk.keep {w w' : World} {F F' S : List Nat} {x : Nx} (h : NxOk w F x) (hf : Frm S w w') (hS : ∀ x ∈ S, x ∈ F ∨ w.heap.size ≤ x) (hF : ∀ x ∈ F', x ∈ F ∨ w.heap.size ≤ x) : NxOk w' F' x := by
  refine ⟨hf.bytes' h.bytes (fun hne q hq hm => ?_), fun hne q hq hm => ?_, h.nil, h.ver, h.own, h.key⟩
  · rcases hS _ hm with h1 | h1
    · exact h.away hne q hq h1
    · have := bytes_lt h.bytes hne q hq; omega
  · rcases hF _ hm with h1 | h1
    · exact h.away hne q hq h1
    · have := bytes_lt h.bytes hne q hq; omega
def NOk (w : World) (F : List Nat) (X : List Nx) : Prop := ∀ x ∈ X, NxOk w F x
theorem NOk.keep {w w' : World} {F F' S : List Nat} {X : List Nx} (h : NOk w F X) (hf : Frm S w w') (hS : ∀ x ∈ S, x ∈ F ∨ w.heap.size ≤ x) (hF : ∀ x ∈ F', x ∈ F ∨ w.heap.size ≤ x) : NOk w' F' X := fun x hx => (h x hx).keep hf hS hF
theorem NOk.append {w : World} {F : List Nat} {X Y : List Nx} (h : NOk w F X) (k : NOk w F Y) : NOk w F (X ++ Y) := fun x hx => (List.mem_append.1 hx).elim (h x) (k x)
theorem NOk.sub {w : World} {F : List Nat} {X Y : List Nx} (h : NOk w F X) (hs : ∀ x ∈ Y, x ∈ X) : NOk w F Y := fun x hx => h x (hs x hx)
theorem NOk.nil (w : World) (F : List Nat) : NOk w F [] := fun x hx => by simp at hx

/-- A slice of nodes, as it reads; neither it nor a value of it lies in the blocks F. -/
structure NL (w : World) (F : List Nat) (a : Option Addr) (X : List Nx) : Prop where
  vals : ValsAt w a (nc X)
  ok : NOk w F X
  away : X ≠ [] → ∀ q, a = some q → q.block ∉ F
theorem NL.nil (w : World) (F : List Nat) (a : Option Addr) : NL w F a [] := ⟨.inl rfl, NOk.nil _ _, fun h => absurd rfl h⟩
theorem nc_ne {X : List Nx} (h : nc X ≠ []) : X ≠ [] := by rintro rfl; exact h rfl
theorem nc_ne' {X : List Nx} (h : X ≠ []) : nc X ≠ [] := by
  intro e
  have := nc_length X
  rw [e] at this
  have := List.length_pos_iff.2 h
  simp at *; omega
theorem vals_lt {w : World} {a : Option Addr} {us : List Value} (h : ValsAt w a us) (hne : us ≠ []) : ∀ q, a = some q → q.block < w.heap.size := by
  intro q hq
  rcases h with h | ⟨b, off, rfl, hc⟩
  · exact absurd h hne
  · cases hq
    cases us with
    | nil => exact absurd rfl hne
    | cons v vs => exact block_lt_of_cell (a := ⟨b, off + 0, none⟩) (hc 0 v rfl)
theorem NL.keep {w w' : World} {F F' S : List Nat} {a : Option Addr} {X : List Nx} (h : NL w F a X) (hf : Frm S w w') (hS : ∀ x ∈ S, x ∈ F ∨ w.heap.size ≤ x) (hF : ∀ x ∈ F', x ∈ F ∨ w.heap.size ≤ x) : NL w' F' a X := by
  refine ⟨h.vals.keep hf (fun hne q hq hm => ?_), h.ok.keep hf hS hF, fun hne q hq hm => ?_⟩
  · rcases hS _ hm with h1 | h1
    · exact h.away (nc_ne hne) q hq h1
    · have := vals_lt h.vals hne q hq; omega
  · rcases hF _ hm with h1 | h1
    · exact h.away hne q hq h1
    · have := vals_lt h.vals (nc_ne' hne) q hq; omega
theorem NL.at {w : World} {F : List Nat} {a : Option Addr} {X : List Nx} (h : NL w F a X) {i : Nat} (hi : i < X.length) :
    ∃ b off, a = some ⟨b, off, none⟩ ∧ w.cell? ⟨b, off + i * 4, none⟩ = some (.string (X.getD i default).t.k) ∧ w.cell? ⟨b, off + i * 4 + 1, none⟩ = some (.slice (X.getD i default).a (X.getD i default).t.v.length (X.getD i default).c) ∧
      w.cell? ⟨b, off + i * 4 + 2, none⟩ = some (.int .u64 ((X.getD i default).t.ver : Nat)) ∧ w.cell? ⟨b, off + i * 4 + 3, none⟩ = some (.int .u64 ((X.getD i default).t.own : Nat)) ∧ NxOk w F (X.getD i default) := by
  obtain ⟨h0, h1, h2, h3⟩ := nc_at X i hi
  have hm : X.getD i default ∈ X := by simp [hi]
  rcases h.vals with h' | ⟨b, off, rfl, hc⟩
  · rw [h'] at h0; simp at h0
  · exact ⟨b, off, rfl, hc _ _ h0, by rw [Nat.add_assoc]; exact hc _ _ h1, by rw [Nat.add_assoc]; exact hc _ _ h2, by rw [Nat.add_assoc]; exact hc _ _ h3, h.ok _ hm⟩
theorem NL.take {w : World} {F : List Nat} {a : Option Addr} {X : List Nx} (h : NL w F a X) (n : Nat) : NL w F a (X.take n) := by
  refine ⟨?_, h.ok.sub (fun x hx => List.mem_of_mem_take hx), fun hne => h.away (by rintro rfl; simp at hne)⟩
  rw [nc_take]
  rcases h.vals with h' | ⟨b, off, rfl, hc⟩
  · exact .inl (by rw [h']; simp)
  · refine .inr ⟨b, off, rfl, fun i u hu => hc i u ?_⟩
    rw [List.getElem?_take] at hu
    split at hu
    · exact hu
    · cases hu
/-- The address of what is left of a slice of elements of four cells each. -/
def cut4 (a : Option Addr) (cap lo : Nat) : Option Addr := if cap = lo then a else a.map (·.add (lo * 4))
theorem NL.drop {w : World} {F : List Nat} {a : Option Addr} {X : List Nx} {cap : Nat} (h : NL w F a X) (hc : X.length ≤ cap) (lo : Nat) : NL w F (cut4 a cap lo) (X.drop lo) := by
  unfold cut4
  by_cases hlo : cap = lo
  · rw [if_pos hlo, List.drop_eq_nil_of_le (by omega)]; exact NL.nil _ _ _
  · rw [if_neg hlo]
    refine ⟨?_, h.ok.sub (fun x hx => List.mem_of_mem_drop hx), fun hne q hq hm => ?_⟩
    · rw [nc_drop]
      rcases h.vals with h' | ⟨b, off, rfl, hcc⟩
      · exact .inl (by rw [h']; simp)
      · refine .inr ⟨b, off + lo * 4, by simp [addr_add], fun i u hu => ?_⟩
        rw [List.getElem?_drop] at hu
        rw [Nat.add_assoc]
        exact hcc _ _ hu
    · cases a with
      | none => cases hq
      | some y =>
        simp at hq
        subst hq
        exact h.away (by rintro rfl; simp at hne) y rfl (by unfold Addr.add at hm; split at hm <;> exact hm)

/-- A row of the call's own of nodes. -/
structure NOwn (w : World) (base : Nat) (e : TypeId) (F : List Nat) (a : Option Addr) (cap : Nat) (X : List Nx) : Prop where
  own : w.ownsRow base e 4 (.slice a X.length cap) X.length (nc X)
  ok : NOk w (blk a ++ F) X
  away : ∀ g ∈ blk a, g ∉ F
section
variable {w w' : World} {base : Nat} {e : TypeId} {F F' S : List Nat} {a : Option Addr} {cap : Nat} {X : List Nx}
theorem NOwn.nil (w : World) (base : Nat) (e : TypeId) (F : List Nat) : NOwn w base e F none 0 [] := ⟨World.ownsRow_nil _ _ _ _, NOk.nil _ _, by simp⟩
theorem ownBlk {a : Option Addr} {n c g : Nat} : (Value.slice a n c).ownBlock = some g ↔ g ∈ blk a := by cases a <;> simp [Value.ownBlock, eq_comm]
theorem NOwn.blk_lt (h : NOwn w base e F a cap X) : ∀ g ∈ blk a, base ≤ g ∧ g < w.heap.size := fun g hg => World.ownsRow.lt h.own g (ownBlk.2 hg)
theorem NOwn.keep (h : NOwn w base e F a cap X) (hf : Frm S w w') (hS : ∀ x ∈ S, x ∈ F ∨ w.heap.size ≤ x) (hF : ∀ x ∈ F', x ∈ F ∨ w.heap.size ≤ x) : NOwn w' base e F' a cap X := by
  have hb := h.blk_lt
  refine ⟨hf.own h.own (fun g hg hm => ?_), h.ok.keep hf (fun x hx => ?_) (fun x hx => ?_), fun g hg hm => ?_⟩
  · rcases hS g hm with h1 | h1
    · exact h.away g (ownBlk.1 hg) h1
    · have := (hb g (ownBlk.1 hg)).2; omega
  · rcases hS x hx with h1 | h1
    · exact .inl (by simp [h1])
    · exact .inr h1
  · rcases List.mem_append.1 hx with h1 | h1
    · exact .inl (by simp [h1])
    · rcases hF x h1 with h2 | h2
      · exact .inl (by simp [h2])
      · exact .inr h2
  · rcases hF g hm with h1 | h1
    · exact h.away g hg h1
    · have := (hb g hg).2; omega
theorem NOwn.nl (h : NOwn w base e F a cap X) : NL w F a X := by
  refine ⟨?_, h.ok.keep (S := []) (Frm.refl _ _) (by simp) (fun x hx => .inl (by simp [hx])), fun _ q hq => h.away q.block (by rw [hq]; simp)⟩
  by_cases h0 : X = []
  · subst h0; exact .inl rfl
  · rcases h.own.2 with ⟨_, hl⟩ | ⟨g, c, cur, hv, _⟩
    · exact absurd (List.eq_nil_of_length_eq_zero hl) h0
    · simp only [Value.slice.injEq] at hv
      obtain ⟨rfl, _, rfl⟩ := hv
      refine .inr ⟨g, 0, rfl, fun i u hu => ?_⟩
      have hi : i < (nc X).length := by
        rcases Nat.lt_or_ge i (nc X).length with h' | h'
        · exact h'
        · rw [List.getElem?_eq_none h'] at hu; cases hu
      rw [nc_length] at hi
      rw [Nat.zero_add, World.ownsRow.cellAt h.own i hi]
      exact hu
theorem NOwn.caps (h : NOwn w base e F a cap X) : X.length ≤ cap ∧ cap ≤ maxLen ∧ (a = none → cap = 0) := by
  rcases h.own.2 with ⟨hv, hl⟩ | ⟨g, c, cur, hv, _, _, h1, h2, _⟩
  · simp only [Value.slice.injEq] at hv
    rw [hl, hv.2.2]; exact ⟨Nat.le_refl _, Nat.zero_le _, fun _ => rfl⟩
  · simp only [Value.slice.injEq] at hv
    obtain ⟨rfl, _, rfl⟩ := hv
    exact ⟨h1, h2, fun h => by cases h⟩
/-- What is appended lies neither in the row's block nor in F. -/
theorem NOwn.app {n m : Nat} {Y : List Nx} {a' : Option Addr} {cap' : Nat} (h : NOwn w base e F a cap X) (hn : n = X.length) (k : NOk w (blk a ++ F) Y) (hm : m = Y.length) (hF : ∀ x ∈ F, x < w.heap.size)
    (ha : AppS w w' base e 4 (.slice a n cap) n m (nc X) (nc Y) a' cap') : NOwn w' base e F a' cap' (X ++ Y) ∧ Frm (blk a) w w' ∧ (∀ g ∈ blk a', g ∈ blk a ∨ w.heap.size ≤ g) ∧ n + m = (X ++ Y).length := by
  subst hn; subst hm
  have hf : Frm (blk a) w w' := (Frm.refl _ _).grown ha.grown (fun g hg => .inl (ownBlk.1 hg))
  have hp : ∀ g ∈ blk a', g ∈ blk a ∨ w.heap.size ≤ g := by
    intro g hg
    have hg' : (Value.slice a' (X.length + Y.length) cap').ownBlock = some g := ownBlk.2 hg
    rcases ha.place with h1 | h1
    · exact .inl (ownBlk.1 (h1 ▸ hg'))
    · rw [hg'] at h1
      cases h1
      exact .inr (Nat.le_refl _)
  refine ⟨⟨?_, ?_, fun g hg hm => ?_⟩, hf, hp, by simp⟩
  · have := ha.own
    rwa [← nc_append, ← List.length_append] at this
  · refine (h.ok.append k).keep hf (fun x hx => .inl (by simp [hx])) (fun x hx => ?_)
    rcases List.mem_append.1 hx with h1 | h1
    · rcases hp x h1 with h2 | h2
      · exact .inl (by simp [h2])
      · exact .inr h2
    · exact .inl (by simp [h1])
  · rcases hp g hg with h1 | h1
    · exact h.away g h1 hm
    · have := hF g hm; omega
end
section
variable {P : Program} {t e : TypeId}
/-- 'x[lo:]' of elements of four cells. -/
theorem run_cut4 (ht : P.underlying t = some (.slice e)) (hz : ∀ w, (Go.sizeOf e).run P w = .ok 4 w) (w : World) (a : Option Addr) (n cap lo : Nat) (l : Int) (hl : l = (lo : Nat)) (h1 : lo ≤ n) :
    (Instr.slice t (.slice a n cap) (some (.int .i64 l)) none none).run P w = .ok (.slice (cut4 a cap lo) (n - lo) (cap - lo)) w := by
  subst hl
  have ht' : P.underlying t = some (.slice (P.elem t)) := by simp [Program.elem, ht]
  have he : P.elem t = e := by simp [Program.elem, ht]
  rw [run_slice_l w t _ _ _ ht' .i64 _ (by omega) (by omega), he, hz]
  simp [Result.andThen, sliced, cut4]
theorem run_head4 (ht : P.underlying t = some (.slice e)) (hz : ∀ w, (Go.sizeOf e).run P w = .ok 4 w) (w : World) (a : Option Addr) (n cap hi : Nat) (h2 : hi ≤ cap) :
    (Instr.slice t (.slice a n cap) none (some (.int .i64 (hi : Nat))) none).run P w = .ok (.slice a hi cap) w := by
  have ht' : P.underlying t = some (.slice (P.elem t)) := by simp [Program.elem, ht]
  have he : P.elem t = e := by simp [Program.elem, ht]
  rw [run_slice_h w t _ _ _ ht' .i64 _ (by omega) (by omega), he, hz]
  have := head_map a
  simp [Result.andThen, sliced, this]
theorem run_head4m (ht : P.underlying t = some (.slice e)) (hz : ∀ w, (Go.sizeOf e).run P w = .ok 4 w) (w : World) (a : Option Addr) (n cap hi mx : Nat) (h2 : hi ≤ mx) (h3 : mx ≤ cap) :
    (Instr.slice t (.slice a n cap) none (some (.int .i64 (hi : Nat))) (some (.int .i64 (mx : Nat)))).run P w = .ok (.slice a hi mx) w := by
  have ht' : P.underlying t = some (.slice (P.elem t)) := by simp [Program.elem, ht]
  have he : P.elem t = e := by simp [Program.elem, ht]
  rw [run_slice_hm w t _ _ _ ht' .i64 .i64 _ _ (by omega) (by omega) (by omega), he, hz]
  have := head_map a
  simp [Result.andThen, sliced, this]
end
end Go.Proofs.YtcbpppdmkhpkkaaGreat
/- A row of the call's own, as it reads. It speaks of no program. -/
namespace Go.Proofs.YtcbpppdmkhpkkaaGreat
open Go.RowKit

/-- A row of the call's own, as it reads. -/
theorem own_vals {w : World} {base : Nat} {e : TypeId} {sz n cap : Nat} {a : Option Addr} {xs : List Value} (h : w.ownsRow base e sz (.slice a n cap) n xs) : ValsAt w a xs := by
  rcases h.2 with ⟨_, hl⟩ | ⟨g, c, cur, hv, _⟩
  · left
    have := h.1
    rw [hl] at this
    exact List.eq_nil_of_length_eq_zero (by omega)
  · simp only [Value.slice.injEq] at hv
    obtain ⟨rfl, _, rfl⟩ := hv
    refine .inr ⟨g, 0, rfl, fun i u hu => ?_⟩
    have hi : i < xs.length := by
      rcases Nat.lt_or_ge i xs.length with h' | h'
      · exact h'
      · rw [List.getElem?_eq_none h'] at hu; cases hu
    rw [Nat.zero_add, World.ownsRow.cellAt h i (by rw [← h.1]; exact hi)]
    exact hu
end Go.Proofs.YtcbpppdmkhpkkaaGreat
/- Lists of sessions (an Id, an end, a life): what they read as, rows of the call's own of them, pieces. They speak of no program. (For stage 7.) -/
namespace Go.Proofs.YtcbpppdmkhpkkaaGreat
open Go.RowKit

/-- A session. -/
structure Sn where
  id : Nat := 0
  ends : Nat := 0
  life : Nat := 0
instance : Inhabited Sn := ⟨{}⟩
def Sn.cells (x : Sn) : List Value := [.int .u64 (x.id : Nat), .int .u64 (x.ends : Nat), .int .u64 (x.life : Nat)]
def Sn.val (x : Sn) : Value := .agg #[.int .u64 (x.id : Nat), .int .u64 (x.ends : Nat), .int .u64 (x.life : Nat)]
def Sn.fits (x : Sn) : Prop := x.id < 18446744073709551616 ∧ x.ends < 18446744073709551616 ∧ x.life < 18446744073709551616
def snc (X : List Sn) : List Value := X.flatMap Sn.cells
theorem snc_append (X Y : List Sn) : snc (X ++ Y) = snc X ++ snc Y := by simp [snc]
theorem snc_cons (x : Sn) (X : List Sn) : snc (x :: X) = x.cells ++ snc X := rfl
theorem snc_length (X : List Sn) : (snc X).length = X.length * 3 := by
  induction X with
  | nil => rfl
  | cons x X ih => rw [snc_cons, List.length_append, ih, List.length_cons]; simp [Sn.cells]; omega
theorem snc_one (X : List Sn) : ∀ u ∈ snc X, u.oneCell' = true := by
  intro u hu
  unfold snc at hu
  simp only [List.mem_flatMap, Sn.cells] at hu
  obtain ⟨x, _, h⟩ := hu
  simp at h
  rcases h with h | h | h <;> subst h <;> rfl
theorem snc_at (X : List Sn) : ∀ i, i < X.length → (snc X)[i * 3]? = some (.int .u64 ((X.getD i default).id : Nat)) ∧ (snc X)[i * 3 + 1]? = some (.int .u64 ((X.getD i default).ends : Nat)) ∧ (snc X)[i * 3 + 2]? = some (.int .u64 ((X.getD i default).life : Nat)) := by
  induction X with
  | nil => intro i hi; simp at hi
  | cons x X ih =>
    intro i hi
    have e : snc (x :: X) = .int .u64 (x.id : Nat) :: .int .u64 (x.ends : Nat) :: .int .u64 (x.life : Nat) :: snc X := rfl
    rw [e]
    rcases i with _ | i
    · exact ⟨rfl, rfl, rfl⟩
    · have := ih i (by simpa using hi)
      have h1 : (i + 1) * 3 = i * 3 + 1 + 1 + 1 := by omega
      rw [h1]
      simpa using this
theorem snc_take (X : List Sn) (n : Nat) : snc (X.take n) = (snc X).take (n * 3) := by
  induction X generalizing n with
  | nil => simp [snc]
  | cons x X ih =>
    rcases n with _ | n
    · simp [snc]
    · rw [List.take_succ_cons, snc_cons, snc_cons, ih, show (n + 1) * 3 = x.cells.length + n * 3 by simp [Sn.cells]; omega, List.take_length_add_append]
theorem snc_drop (X : List Sn) (n : Nat) : snc (X.drop n) = (snc X).drop (n * 3) := by
  induction X generalizing n with
  | nil => simp [snc]
  | cons x X ih =>
    rcases n with _ | n
    · simp [snc]
    · rw [List.drop_succ_cons, snc_cons, ih, show (n + 1) * 3 = x.cells.length + n * 3 by simp [Sn.cells]; omega, ← List.drop_drop, List.drop_left' rfl]
theorem snc_ne {X : List Sn} (h : snc X ≠ []) : X ≠ [] := by rintro rfl; exact h rfl
theorem snc_ne' {X : List Sn} (h : X ≠ []) : snc X ≠ [] := by
  intro e
  have := snc_length X
  rw [e] at this
  have := List.length_pos_iff.2 h
  simp at *; omega

/-- A slice of sessions, as it reads; it lies outside the blocks F. -/
structure SL (w : World) (F : List Nat) (a : Option Addr) (X : List Sn) : Prop where
  vals : ValsAt w a (snc X)
  fits : ∀ x ∈ X, x.fits
  away : X ≠ [] → ∀ q, a = some q → q.block ∉ F
theorem SL.nil (w : World) (F : List Nat) (a : Option Addr) : SL w F a [] := ⟨.inl rfl, by simp, fun h => absurd rfl h⟩
theorem valsAt_lt {w : World} {a : Option Addr} {us : List Value} (h : ValsAt w a us) (hne : us ≠ []) : ∀ q, a = some q → q.block < w.heap.size := by
  intro q hq
  rcases h with h | ⟨b, off, rfl, hc⟩
  · exact absurd h hne
  · cases hq
    cases us with
    | nil => exact absurd rfl hne
    | cons v vs => exact block_lt_of_cell (a := ⟨b, off + 0, none⟩) (hc 0 v rfl)
theorem SL.keep {w w' : World} {F F' S : List Nat} {a : Option Addr} {X : List Sn} (h : SL w F a X) (hf : Frm S w w') (hS : ∀ x ∈ S, x ∈ F ∨ w.heap.size ≤ x) (hF : ∀ x ∈ F', x ∈ F ∨ w.heap.size ≤ x) : SL w' F' a X := by
  refine ⟨h.vals.keep hf (fun hne q hq hm => ?_), h.fits, fun hne q hq hm => ?_⟩
  · rcases hS _ hm with h1 | h1
    · exact h.away (snc_ne hne) q hq h1
    · have := valsAt_lt h.vals hne q hq; omega
  · rcases hF _ hm with h1 | h1
    · exact h.away hne q hq h1
    · have := valsAt_lt h.vals (snc_ne' hne) q hq; omega
theorem SL.at {w : World} {F : List Nat} {a : Option Addr} {X : List Sn} (h : SL w F a X) {i : Nat} (hi : i < X.length) :
    ∃ b off, a = some ⟨b, off, none⟩ ∧ w.cell? ⟨b, off + i * 3, none⟩ = some (.int .u64 ((X.getD i default).id : Nat)) ∧ w.cell? ⟨b, off + i * 3 + 1, none⟩ = some (.int .u64 ((X.getD i default).ends : Nat)) ∧
      w.cell? ⟨b, off + i * 3 + 2, none⟩ = some (.int .u64 ((X.getD i default).life : Nat)) ∧ (X.getD i default).fits := by
  obtain ⟨h0, h1, h2⟩ := snc_at X i hi
  have hm : X.getD i default ∈ X := by simp [hi]
  rcases h.vals with h' | ⟨b, off, rfl, hc⟩
  · rw [h'] at h0; simp at h0
  · exact ⟨b, off, rfl, hc _ _ h0, by rw [Nat.add_assoc]; exact hc _ _ h1, by rw [Nat.add_assoc]; exact hc _ _ h2, h.fits _ hm⟩
theorem SL.take {w : World} {F : List Nat} {a : Option Addr} {X : List Sn} (h : SL w F a X) (n : Nat) : SL w F a (X.take n) := by
  refine ⟨?_, fun x hx => h.fits x (List.mem_of_mem_take hx), fun hne => h.away (by rintro rfl; simp at hne)⟩
  rw [snc_take]
  rcases h.vals with h' | ⟨b, off, rfl, hc⟩
  · exact .inl (by rw [h']; simp)
  · refine .inr ⟨b, off, rfl, fun i u hu => hc i u ?_⟩
    rw [List.getElem?_take] at hu
    split at hu
    · exact hu
    · cases hu
/-- The address of what is left of a slice of elements of three cells each. -/
def cut3 (a : Option Addr) (cap lo : Nat) : Option Addr := if cap = lo then a else a.map (·.add (lo * 3))
theorem SL.drop {w : World} {F : List Nat} {a : Option Addr} {X : List Sn} {cap : Nat} (h : SL w F a X) (hc : X.length ≤ cap) (lo : Nat) : SL w F (cut3 a cap lo) (X.drop lo) := by
  unfold cut3
  by_cases hlo : cap = lo
  · rw [if_pos hlo, List.drop_eq_nil_of_le (by omega)]; exact SL.nil _ _ _
  · rw [if_neg hlo]
    refine ⟨?_, fun x hx => h.fits x (List.mem_of_mem_drop hx), fun hne q hq hm => ?_⟩
    · rw [snc_drop]
      rcases h.vals with h' | ⟨b, off, rfl, hcc⟩
      · exact .inl (by rw [h']; simp)
      · refine .inr ⟨b, off + lo * 3, by simp [addr_add], fun i u hu => ?_⟩
        rw [List.getElem?_drop] at hu
        rw [Nat.add_assoc]
        exact hcc _ _ hu
    · cases a with
      | none => cases hq
      | some y =>
        simp at hq
        subst hq
        exact h.away (by rintro rfl; simp at hne) y rfl (by unfold Addr.add at hm; split at hm <;> exact hm)
/-- A row of the call's own of sessions. -/
structure SOwn (w : World) (base : Nat) (e : TypeId) (F : List Nat) (a : Option Addr) (cap : Nat) (X : List Sn) : Prop where
  own : w.ownsRow base e 3 (.slice a X.length cap) X.length (snc X)
  fits : ∀ x ∈ X, x.fits
  away : ∀ g ∈ blk a, g ∉ F
section
variable {w w' : World} {base : Nat} {e : TypeId} {F F' S : List Nat} {a : Option Addr} {cap : Nat} {X : List Sn}
theorem SOwn.nil (w : World) (base : Nat) (e : TypeId) (F : List Nat) : SOwn w base e F none 0 [] := ⟨World.ownsRow_nil _ _ _ _, by simp, by simp⟩
theorem ownBlk3 {a : Option Addr} {n c g : Nat} : (Value.slice a n c).ownBlock = some g ↔ g ∈ blk a := by cases a <;> simp [Value.ownBlock, eq_comm]
theorem SOwn.blk_lt (h : SOwn w base e F a cap X) : ∀ g ∈ blk a, base ≤ g ∧ g < w.heap.size := fun g hg => World.ownsRow.lt h.own g (ownBlk3.2 hg)
theorem SOwn.keep (h : SOwn w base e F a cap X) (hf : Frm S w w') (hS : ∀ x ∈ S, x ∈ F ∨ w.heap.size ≤ x) (hF : ∀ x ∈ F', x ∈ F ∨ w.heap.size ≤ x) : SOwn w' base e F' a cap X := by
  have hb := h.blk_lt
  refine ⟨hf.own h.own (fun g hg hm => ?_), h.fits, fun g hg hm => ?_⟩
  · rcases hS g hm with h1 | h1
    · exact h.away g (ownBlk3.1 hg) h1
    · have := (hb g (ownBlk3.1 hg)).2; omega
  · rcases hF g hm with h1 | h1
    · exact h.away g hg h1
    · have := (hb g hg).2; omega
theorem SOwn.sl (h : SOwn w base e F a cap X) : SL w F a X := ⟨own_vals h.own, h.fits, fun _ q hq => h.away q.block (by rw [hq]; simp)⟩
theorem SOwn.caps (h : SOwn w base e F a cap X) : X.length ≤ cap ∧ cap ≤ maxLen ∧ (a = none → cap = 0) := by
  rcases h.own.2 with ⟨hv, hl⟩ | ⟨g, c, cur, hv, _, _, h1, h2, _⟩
  · simp only [Value.slice.injEq] at hv
    rw [hl, hv.2.2]; exact ⟨Nat.le_refl _, Nat.zero_le _, fun _ => rfl⟩
  · simp only [Value.slice.injEq] at hv
    obtain ⟨rfl, _, rfl⟩ := hv
    exact ⟨h1, h2, fun h => by cases h⟩
/-- What is appended. -/
theorem SOwn.app {n m : Nat} {Y : List Sn} {a' : Option Addr} {cap' : Nat} (h : SOwn w base e F a cap X) (hn : n = X.length) (k : ∀ y ∈ Y, y.fits) (hm : m = Y.length) (hF : ∀ x ∈ F, x < w.heap.size)
    (ha : AppS w w' base e 3 (.slice a n cap) n m (snc X) (snc Y) a' cap') : SOwn w' base e F a' cap' (X ++ Y) ∧ Frm (blk a) w w' ∧ (∀ g ∈ blk a', g ∈ blk a ∨ w.heap.size ≤ g) ∧ n + m = (X ++ Y).length := by
  subst hn; subst hm
  have hf : Frm (blk a) w w' := (Frm.refl _ _).grown ha.grown (fun g hg => .inl (ownBlk3.1 hg))
  have hp : ∀ g ∈ blk a', g ∈ blk a ∨ w.heap.size ≤ g := by
    intro g hg
    have hg' : (Value.slice a' (X.length + Y.length) cap').ownBlock = some g := ownBlk3.2 hg
    rcases ha.place with h1 | h1
    · exact .inl (ownBlk3.1 (h1 ▸ hg'))
    · rw [hg'] at h1
      cases h1
      exact .inr (Nat.le_refl _)
  refine ⟨⟨?_, fun x hx => (List.mem_append.1 hx).elim (h.fits x) (k x), fun g hg hm => ?_⟩, hf, hp, by simp⟩
  · have := ha.own
    rwa [← snc_append, ← List.length_append] at this
  · rcases hp g hg with h1 | h1
    · exact h.away g h1 hm
    · have := hF g hm; omega
end
section
variable {P : Program} {t e : TypeId}
/-- 'x[lo:]' of elements of three cells. -/
theorem run_cut3 (ht : P.underlying t = some (.slice e)) (hz : ∀ w, (Go.sizeOf e).run P w = .ok 3 w) (w : World) (a : Option Addr) (n cap lo : Nat) (l : Int) (hl : l = (lo : Nat)) (h1 : lo ≤ n) :
    (Instr.slice t (.slice a n cap) (some (.int .i64 l)) none none).run P w = .ok (.slice (cut3 a cap lo) (n - lo) (cap - lo)) w := by
  subst hl
  have ht' : P.underlying t = some (.slice (P.elem t)) := by simp [Program.elem, ht]
  have he : P.elem t = e := by simp [Program.elem, ht]
  rw [run_slice_l w t _ _ _ ht' .i64 _ (by omega) (by omega), he, hz]
  simp [Result.andThen, sliced, cut3]
theorem run_head3 (ht : P.underlying t = some (.slice e)) (hz : ∀ w, (Go.sizeOf e).run P w = .ok 3 w) (w : World) (a : Option Addr) (n cap hi : Nat) (h2 : hi ≤ cap) :
    (Instr.slice t (.slice a n cap) none (some (.int .i64 (hi : Nat))) none).run P w = .ok (.slice a hi cap) w := by
  have ht' : P.underlying t = some (.slice (P.elem t)) := by simp [Program.elem, ht]
  have he : P.elem t = e := by simp [Program.elem, ht]
  rw [run_slice_h w t _ _ _ ht' .i64 _ (by omega) (by omega), he, hz]
  have := head_map a
  simp [Result.andThen, sliced, this]
end
theorem snvals_one (w : World) (x : Sn) (t : TypeId) : ValsAt (w.alloc (.cells #[.int .u64 (x.id : Nat), .int .u64 (x.ends : Nat), .int .u64 (x.life : Nat)] t)) (some ⟨w.heap.size, 0, none⟩) (snc [x]) := by
  refine .inr ⟨_, _, rfl, fun i u hu => ?_⟩
  rw [(Whole.made w t _).cell, Nat.zero_add]
  simp only [snc, List.flatMap_cons, List.flatMap_nil, List.append_nil, Sn.cells] at hu
  rw [← hu]
  simp

/-- The document's Book in plain words: at most 2^64 - 1; a session's place. -/
def sumU (a b : Nat) : Nat := if a + b < 18446744073709551616 then a + b else 18446744073709551615
def atS (X : List Sn) (id : Nat) : Nat := X.findIdx (fun x => decide (x.id = id))
theorem atS_le (X : List Sn) (id : Nat) : atS X id ≤ X.length := List.findIdx_le_length
theorem atS_at {X : List Sn} {id : Nat} (h : atS X id < X.length) : (X.getD (atS X id) default).id = id := by
  have h1 := List.findIdx_getElem (p := fun x : Sn => decide (x.id = id)) (w := h)
  have e : X.getD (atS X id) default = X[atS X id] := by simp [h]
  rw [e]
  exact of_decide_eq_true h1
theorem atS_before {X : List Sn} {id j : Nat} (h : j < atS X id) : (X.getD j default).id ≠ id := by
  have hj : j < X.length := Nat.lt_of_lt_of_le h (atS_le X id)
  have := List.not_of_lt_findIdx h
  have e : X.getD j default = X[j] := by simp [hj]
  rw [e]
  simpa using this
end Go.Proofs.YtcbpppdmkhpkkaaGreat
/- The keeper's state and its commands as plain data, and as bytes. -/
namespace Go.Proofs.YtcbpppdmkhpkkaaGreat
open Go.RowKit
/-- A keeper's state: the time, the nodes (rising), the last Id, the sessions. -/
structure MS where
  now : Nat := 0
  nodes : List Nd := []
  last : Nat := 0
  ses : List Sn := []
/-- A command. -/
structure MC where
  kind : Nat := 0
  key : ByteArray := ⟨#[]⟩
  val : List Nat := []
  want : Nat := 0
  ses : Nat := 0
  ticks : Nat := 0
/-- A command that fits its fields. -/
structure MCOk (c : MC) : Prop where
  kind : c.kind < 256
  key : c.key.size ≤ 5000
  val : c.val.length ≤ 5000 ∧ ∀ x ∈ c.val, x < 256
  want : c.want < 18446744073709551616
  ses : c.ses < 18446744073709551616
  ticks : c.ticks < 18446744073709551616
/-- A command as it comes: its value lies at a. -/
def cmdV (c : MC) (a : Option Addr) (cap : Nat) : Value := .agg #[.int .u8 (c.kind : Nat), .string c.key, .slice a c.val.length cap, .int .u64 (c.want : Nat), .int .u64 (c.ses : Nat), .int .u64 (c.ticks : Nat)]
def cmdC (c : MC) (a : Option Addr) (cap : Nat) : Array Value := #[.int .u8 (c.kind : Nat), .string c.key, .slice a c.val.length cap, .int .u64 (c.want : Nat), .int .u64 (c.ses : Nat), .int .u64 (c.ticks : Nat)]
/-- Counted bytes. -/
def cb (v : List Nat) : List Nat := be 4 v.length ++ v
/-- What a command says behind its kind. -/
def encC (c : MC) : List Nat := cb (strL c.key) ++ cb c.val ++ be 8 c.want ++ be 8 c.ses ++ be 8 c.ticks
def encX (x : Sn) : List Nat := be 8 x.id ++ be 8 x.ends ++ be 8 x.life
def encN (d : Nd) : List Nat := cb (strL d.k) ++ cb d.v ++ be 8 d.ver ++ be 8 d.own
/-- The state behind its kind. -/
def encS (S : MS) : List Nat := be 8 S.now ++ be 8 S.last ++ be 2 S.ses.length ++ S.ses.flatMap encX ++ be 2 S.nodes.length ++ S.nodes.flatMap encN
/-- A command's record. -/
def recB (S : MS) (c : MC) : List Nat := be 1 c.kind ++ if c.kind = 7 then encS S else encC c
end Go.Proofs.YtcbpppdmkhpkkaaGreat
/- Texts: in order, as Go compares them; what begins them. It speaks of no program. -/
namespace Go.Proofs.YtcbpppdmkhpkkaaGreat
open Go.RowKit
set_option maxRecDepth 100000

/-- Texts as the walk compares them. -/
theorem txt_ne {s t : ByteArray} (h : ¬ s = t) : (s.toList == t.toList) = false := by
  rw [beq_eq_false_iff_ne, ByteArray.toList_eq, ByteArray.toList_eq]
  intro e
  exact h (ByteArray.ext (Array.toList_inj.1 e))
theorem txt_eq {s t : ByteArray} : (s.toList == t.toList) = decide (s = t) := by
  by_cases h : s = t
  · subst h; simp
  · rw [txt_ne h]; simp [h]
/-- Texts in order, as Go compares them. -/
def kl (a b : ByteArray) : Bool := Op.bytesLess a.toList b.toList
theorem less_irr : ∀ a : List UInt8, Op.bytesLess a a = false
  | [] => rfl
  | x :: a => by simp [Op.bytesLess, less_irr a]
theorem less_cons (x y : UInt8) (a b : List UInt8) : Op.bytesLess (x :: a) (y :: b) = true ↔ x < y ∨ (x = y ∧ Op.bytesLess a b = true) := by simp [Op.bytesLess]
theorem less_trans : ∀ a b c : List UInt8, Op.bytesLess a b = true → Op.bytesLess b c = true → Op.bytesLess a c = true
  | [], [], c, h, _ => by simp [Op.bytesLess] at h
  | _ :: _, [], c, h, _ => by simp [Op.bytesLess] at h
  | _, _ :: _, [], _, h => by simp [Op.bytesLess] at h
  | [], _ :: _, _ :: _, _, _ => rfl
  | x :: a, y :: b, z :: c, h, k => by
    rw [less_cons] at h k ⊢
    rcases h with h | ⟨rfl, h⟩
    · rcases k with k | ⟨rfl, k⟩
      · exact .inl (UInt8.lt_trans h k)
      · exact .inl h
    · rcases k with k | ⟨rfl, k⟩
      · exact .inl k
      · exact .inr ⟨rfl, less_trans a b c h k⟩
theorem less_tot : ∀ a b : List UInt8, Op.bytesLess a b = false → Op.bytesLess b a = false → a = b
  | [], [], _, _ => rfl
  | [], _ :: _, h, _ => by simp [Op.bytesLess] at h
  | _ :: _, [], _, h => by simp [Op.bytesLess] at h
  | x :: a, y :: b, h, k => by
    have h' : ¬ (x < y ∨ (x = y ∧ Op.bytesLess a b = true)) := by rw [← less_cons, h]; simp
    have k' : ¬ (y < x ∨ (y = x ∧ Op.bytesLess b a = true)) := by rw [← less_cons, k]; simp
    have e : x = y := by
      rcases UInt8.lt_or_eq_of_le (UInt8.not_lt.1 (fun h => h' (.inl h))) with h1 | h1
      · exact absurd (.inl h1) k'
      · exact h1.symm
    subst e
    rw [less_tot a b (by simpa using fun h => h' (.inr ⟨rfl, h⟩)) (by simpa using fun h => k' (.inr ⟨rfl, h⟩))]
theorem cmp_lt : ∀ a b : List UInt8, decide (Lib.compareBytes a b < 0) = Op.bytesLess a b
  | [], [] => rfl
  | [], _ :: _ => rfl
  | _ :: _, [] => rfl
  | x :: a, y :: b => by
    unfold Lib.compareBytes Op.bytesLess
    by_cases h : x < y
    · simp [h]
    · by_cases k : y < x
      · have : ¬ x = y := by rintro rfl; exact absurd k (UInt8.lt_irrefl _)
        simp [h, k, this]
      · have e : x = y := UInt8.le_antisymm (UInt8.not_lt.1 k) (UInt8.not_lt.1 h)
        subst e
        simp [UInt8.lt_irrefl, cmp_lt a b]
theorem cmp_eq0 : ∀ a b : List UInt8, (Lib.compareBytes a b == 0) = (a == b)
  | [], [] => rfl
  | [], _ :: _ => rfl
  | _ :: _, [] => rfl
  | x :: a, y :: b => by
    unfold Lib.compareBytes
    by_cases h : x < y
    · have : ¬ x = y := by rintro rfl; exact absurd h (UInt8.lt_irrefl _)
      simp [h, this]
    · by_cases k : y < x
      · have : ¬ x = y := by rintro rfl; exact absurd k (UInt8.lt_irrefl _)
        simp [h, k, this]
      · have e : x = y := UInt8.le_antisymm (UInt8.not_lt.1 k) (UInt8.not_lt.1 h)
        subst e
        have := cmp_eq0 a b
        simp [UInt8.lt_irrefl] at this ⊢
        exact this
theorem kl_irr (a : ByteArray) : kl a a = false := less_irr _
theorem kl_trans {a b c : ByteArray} (h : kl a b = true) (k : kl b c = true) : kl a c = true := less_trans _ _ _ h k
theorem ba_eq {a b : ByteArray} (h : a.toList = b.toList) : a = b := by
  rw [ByteArray.toList_eq, ByteArray.toList_eq] at h
  exact ByteArray.ext (Array.toList_inj.1 h)
theorem kl_tot {a b : ByteArray} (h : kl a b = false) (k : kl b a = false) : a = b := ba_eq (less_tot _ _ h k)
theorem kl_ne {a b : ByteArray} (h : kl a b = true) : a ≠ b := by rintro rfl; rw [kl_irr] at h; cases h
theorem kl_asym {a b : ByteArray} (h : kl a b = true) : kl b a = false := by
  cases e : kl b a with
  | false => rfl
  | true => have := kl_trans h e; rw [kl_irr] at this; cases this
/-- What is not below s, is below or is t; and so on. -/
theorem kl_le {a b c : ByteArray} (h : kl a c = false) (k : kl a b = true) : kl b c = false := by
  cases e : kl b c with
  | false => rfl
  | true => have := kl_trans k e; rw [h] at this; cases this

/-- Does a text begin so? -/
def pfx (P K : ByteArray) : Bool := Lib.hasPrefix K.data.toList P.data.toList
theorem pfx_less : ∀ p k : List UInt8, p.isPrefixOf k = true → Op.bytesLess k p = false
  | [], k, _ => by cases k <;> rfl
  | x :: p, [], h => by simp at h
  | x :: p, y :: k, h => by
    simp only [List.isPrefixOf_cons_cons, Bool.and_eq_true, beq_iff_eq] at h
    obtain ⟨rfl, h⟩ := h
    simp [Op.bytesLess, pfx_less p k h]
theorem pfx_mid : ∀ p k k' : List UInt8, p.isPrefixOf k' = true → Op.bytesLess k p = false → Op.bytesLess k k' = true → p.isPrefixOf k = true
  | [], k, _, _, _, _ => by simp
  | x :: p, [], k', h, h1, _ => by simp [Op.bytesLess] at h1
  | x :: p, y :: k, [], h, _, _ => by simp at h
  | x :: p, y :: k, z :: k', h, h1, h2 => by
    simp only [List.isPrefixOf_cons_cons, Bool.and_eq_true, beq_iff_eq] at h ⊢
    obtain ⟨rfl, h⟩ := h
    have h1' : ¬ (y < x ∨ (y = x ∧ Op.bytesLess k p = true)) := by rw [← less_cons, h1]; simp
    rw [less_cons] at h2
    rcases h2 with h2 | ⟨rfl, h2⟩
    · exact absurd (.inl h2) h1'
    · exact ⟨rfl, pfx_mid p k k' h (by simpa using fun h => h1' (.inr ⟨rfl, h⟩)) h2⟩
theorem kl_data (a b : ByteArray) : kl a b = Op.bytesLess a.data.toList b.data.toList := by unfold kl; rw [Lib.toList_data, Lib.toList_data]
theorem pfx_ge {P K : ByteArray} (h : pfx P K = true) : kl K P = false := by rw [kl_data]; exact pfx_less _ _ h
theorem pfx_between {P K K' : ByteArray} (h : pfx P K' = true) (h1 : kl K P = false) (h2 : kl K K' = true) : pfx P K = true := by rw [kl_data] at h1 h2; exact pfx_mid _ _ _ h h1 h2
end Go.Proofs.YtcbpppdmkhpkkaaGreat
/- The reference's tree in memory; contract of at: a key's place. -/
namespace Go.Proofs.YtcbpppdmkhpkkaaGreat
open Go.RowKit
set_option maxRecDepth 100000

/-- The reference's tree at p has the nodes X; its row and the values lie outside p and the blocks F. -/
structure Rt (w : World) (B p : Nat) (F : List Nat) (a : Option Addr) (cap : Nat) (X : List Nx) : Prop where
  tree : Whole w p 30 #[.slice a X.length cap]
  row : NOwn w B 58 (p :: F) a cap X
  hp : B ≤ p
  out : p ∉ F
  few : X.length ≤ 256

/-- A key's place; how many nodes there are, if it isn't there. -/
def atN (X : List Nx) (s : ByteArray) : Nat := X.findIdx (fun x => decide (x.t.k = s))
theorem atN_le (X : List Nx) (s : ByteArray) : atN X s ≤ X.length := List.findIdx_le_length
theorem getD_get {X : List Nx} {i : Nat} (h : i < X.length) : X.getD i default = X[i] := by simp [h]
theorem atN_key {X : List Nx} {s : ByteArray} (h : atN X s < X.length) : (X.getD (atN X s) default).t.k = s := by
  have h1 := List.findIdx_getElem (p := fun x : Nx => decide (x.t.k = s)) (w := h)
  rw [getD_get h]
  exact of_decide_eq_true h1
theorem atN_before {X : List Nx} {s : ByteArray} {j : Nat} (h : j < atN X s) : (X.getD j default).t.k ≠ s := by
  have hj : j < X.length := Nat.lt_of_lt_of_le h (atN_le X s)
  have := List.not_of_lt_findIdx h
  have e : X.getD j default = X[j] := by simp [hj]
  rw [e]
  simpa using this
def atI (X : List Nx) (s : ByteArray) : Int := if atN X s < X.length then ((atN X s : Nat) : Int) else -1

end Go.Proofs.YtcbpppdmkhpkkaaGreat
/- Contracts of the reference's SameNode and SameNodes, at nodes that are the same. -/
namespace Go.Proofs.YtcbpppdmkhpkkaaGreat
open Go.RowKit
set_option maxRecDepth 100000

/-- A node by value. -/
def Nx.val (x : Nx) : Value := .agg #[.string x.t.k, .slice x.a x.t.v.length x.c, .int .u64 (x.t.ver : Nat), .int .u64 (x.t.own : Nat)]

set_option maxRecDepth 100000 in
set_option maxHeartbeats 1000000 in
theorem sameNode_true (k : ByteArray) (a1 : Option Addr) (n c1 : Nat) (a2 : Option Addr) (c2 ver own : Nat) (l : List Nat) (w : World) (h1 : Bytes w a1 l) (h2 : Bytes w a2 l) (hn : n = l.length) :
    Calls Tryz.prog 45 #[.agg #[.string k, .slice a1 n c1, .int .u64 (ver : Nat), .int .u64 (own : Nat)], .agg #[.string k, .slice a2 n c2, .int .u64 (ver : Nat), .int .u64 (own : Nat)]] w
      fun e w' => e = .returned (.bool true) ∧ Frm [] w w' := by
  obtain ⟨wA, hA⟩ : ∃ wA, wA = w.alloc (.cells #[.string k, .slice a1 n c1, .int .u64 (ver : Nat), .int .u64 (own : Nat)] 58) := ⟨_, rfl⟩
  obtain ⟨wB, hB⟩ : ∃ wB, wB = wA.alloc (.cells #[.string k, .slice a2 n c2, .int .u64 (ver : Nat), .int .u64 (own : Nat)] 58) := ⟨_, rfl⟩
  have hf : Frm [] w wB := by rw [hB, hA]; exact ((Frm.refl _ _).alloc _).alloc _
  have v1 := run_to_string (P := Tryz.prog) (src := 36) (dst := 9) (e := 5) Tryz.underlying36 Tryz.underlying5 Tryz.underlying9 (n := n) (c := c1) (hf.bytes h1 (by simp)) hn
  have v2 := run_to_string (P := Tryz.prog) (src := 36) (dst := 9) (e := 5) Tryz.underlying36 Tryz.underlying5 Tryz.underlying9 (n := n) (c := c2) (hf.bytes h2 (by simp)) hn
  rw [hB, hA] at v1 v2
  have HF := Lib.hid hf
  rw [hB, hA] at HF
  clear hf hA hB h1 h2 hn
  go_enter Tryz.func45, Tryz.ntmps45
  go_wp2
  go_ret
  exact ⟨rfl, HF.out⟩

/-- The nodes without where their values lie. -/
def nds (X : List Nx) : List Nd := X.map (·.t)
theorem nds_at {X Y : List Nx} (h : nds X = nds Y) (i : Nat) : (X.getD i default).t = (Y.getD i default).t := by
  have := congrArg (fun l => l[i]?) h
  simp only [nds, List.getElem?_map] at this
  simp only [List.getD]
  cases hX : X[i]? <;> cases hY : Y[i]? <;> rw [hX, hY] at this <;> simp at this ⊢
  exact this
theorem nds_len {X Y : List Nx} (h : nds X = nds Y) : X.length = Y.length := by
  have := congrArg List.length h
  simpa [nds] using this
def TrueF (w : World) (e : Ending) (w' : World) : Prop := e = .returned (.bool true) ∧ Frm [] w w'

set_option maxRecDepth 100000 in
set_option maxHeartbeats 1000000 in
theorem sameNodes_true (a1 a2 : Option Addr) (n c1 c2 : Nat) (X Y : List Nx) (F1 F2 : List Nat) (w : World) (h1 : NL w F1 a1 X) (h2 : NL w F2 a2 Y) (hn : n = X.length) (he : nds X = nds Y) (hfit : n ≤ 9223372036854775807) :
    Calls Tryz.prog 18 #[.slice a1 n c1, .slice a2 n c2] w (TrueF w) := by
  have H1 := Lib.hid h1; clear h1
  have H2 := Lib.hid h2; clear h2
  have HN := Lib.hid hn
  have HM : Hid (n = Y.length) := by rw [hn]; exact Lib.hid (nds_len he)
  have HE := Lib.hid (fun i => nds_at he i)
  clear hn he
  go_enter Tryz.func18, Tryz.ntmps18
  go_wp2
  go_loopw [5] (fun u wr => ∃ k : Nat, k ≤ n ∧ u = .int .i64 (k : Nat) ∧ Frm [] w wr) (fun u _ => n - (intOf u).toNat)
  case atStart => exact ⟨0, Nat.zero_le _, rfl, Frm.refl _ _⟩
  case round =>
    obtain ⟨k, hk, rfl, hf⟩ := hrel
    have HF := Lib.hid hf; clear hf
    by_cases hlt : k < n
    · obtain ⟨b1, o1, rfl, p0, p1, p2, p3, ok1⟩ := (H1.out.keep HF.out (F' := F1) (by simp) (fun x h => .inl h)).at (i := k) (by have := HN.out; omega)
      obtain ⟨b2, o2, rfl, q0, q1, q2, q3, ok2⟩ := (H2.out.keep HF.out (F' := F2) (by simp) (fun x h => .inl h)).at (i := k) (by have := HM.out; omega)
      have hE := HE.out k
      have hb1 := ok1.bytes
      have hb2 := ok2.bytes
      rw [← hE] at q0 q1 q2 q3 hb2
      generalize (X.getD k default) = x at p0 p1 p2 p3 q0 q1 q2 q3 hb1 hb2
      generalize (Y.getD k default).a = ya at q1 hb2
      generalize (Y.getD k default).c = yc at q1
      obtain ⟨⟨xk, xv, xver, xown⟩, xa, xc⟩ := x
      simp only at p0 p1 p2 p3 q0 q1 q2 q3 hb1 hb2
      obtain ⟨m, hm⟩ : ∃ m, m = xv.length := ⟨_, rfl⟩
      rw [← hm] at p1 q1
      have SN := Lib.hid (fun (z : World) (hz : Frm [] wr z) => sameNode_true xk xa m xc ya yc xver xown xv z (hz.bytes hb1 (by simp)) (hz.bytes hb2 (by simp)) hm)
      have SQ := Lib.hid (fun (d : Nat) (os : Array Obj) => Calls.regrown_of (w := wr) (d := d) (os := os) ((SN.out _ (Frm.ofBelow (below_regrown wr d os))).mono fun _ _ h => ⟨h.1, h.2.below (by simp) (Nat.le_refl _)⟩))
      have k1 := cell_regrown p0
      have k2 := cell_regrown p1
      have k3 := cell_regrown p2
      have k4 := cell_regrown p3
      have l1 := cell_regrown q0
      have l2 := cell_regrown q1
      have l3 := cell_regrown q2
      have l4 := cell_regrown q3
      clear hE hb1 hb2 ok1 ok2 hm p0 p1 p2 p3 q0 q1 q2 q3
      go_wp2
      refine wp_region_quiet_below (by kernel_rfl) (by kernel_rfl) ?_
      repeat (go_big_quiet_step (with_reducible exact SQ.out _ _))
      refine wpQuiet_nil ?_
      intro _ hw'
      obtain ⟨⟨dq, osq⟩, hw''⟩ := hw'
      subst hw''
      have HG := Lib.hid (HF.out.trans (Frm.ofBelow (below_regrown wr dq osq)) (U := []) (by simp) (by simp))
      clear k1 k2 k3 k4 l1 l2 l3 l4
      go_wp2
      go_round
      case rel => exact ⟨k + 1, by omega, by go_num, HG.out⟩
      case measure => simp [intOf]; omega
    · go_wp2
      go_ret
      exact ⟨rfl, HF.out⟩
end Go.Proofs.YtcbpppdmkhpkkaaGreat
/- Mathematics of sorted nodes: texts in order, where a key stands, what comes of putting, taking away, listing; the same nodes in another order. It speaks of no program. -/
namespace Go.Proofs.YtcbpppdmkhpkkaaGreat
open Go.RowKit
set_option maxRecDepth 100000

/-- Nodes in order. -/
def Srt (L : List Nd) : Prop := L.Pairwise (fun x y => kl x.k y.k = true)
instance : Inhabited Nd := ⟨{}⟩
theorem Srt.at {L : List Nd} (h : Srt L) {i j : Nat} (hij : i < j) (hj : j < L.length) : kl (L.getD i default).k (L.getD j default).k = true := by
  have hi : i < L.length := by omega
  have := List.pairwise_iff_getElem.1 h i j hi hj hij
  simpa [hi, hj] using this
/-- Where a key stands, or would stand; is it there? -/
def ixN (L : List Nd) (s : ByteArray) : Nat := L.findIdx (fun d => !kl d.k s)
theorem ixN_le (L : List Nd) (s : ByteArray) : ixN L s ≤ L.length := List.findIdx_le_length
theorem ixN_lo {L : List Nd} {s : ByteArray} {j : Nat} (h : j < ixN L s) : kl (L.getD j default).k s = true := by
  have hj : j < L.length := Nat.lt_of_lt_of_le h (ixN_le L s)
  have := List.not_of_lt_findIdx h
  have e : L.getD j default = L[j] := by simp [hj]
  rw [e]
  simpa using this
theorem ixN_at {L : List Nd} {s : ByteArray} (h : ixN L s < L.length) : kl (L.getD (ixN L s) default).k s = false := by
  have h1 := List.findIdx_getElem (p := fun d : Nd => !kl d.k s) (w := h)
  have e : L.getD (ixN L s) default = L[ixN L s] := by simp [h]
  rw [e]
  have h2 : (!kl L[ixN L s].k s) = true := h1
  simpa using h2
theorem ixN_hi {L : List Nd} (hs : Srt L) {s : ByteArray} {j : Nat} (h : ixN L s ≤ j) (hj : j < L.length) : kl (L.getD j default).k s = false := by
  rcases Nat.lt_or_ge (ixN L s) j with h1 | h1
  · exact kl_le (ixN_at (by omega)) (hs.at h1 hj)
  · have e : j = ixN L s := by omega
    subst e; exact ixN_at hj
theorem ixN_of {L : List Nd} {s : ByteArray} {r : Nat} (hr : r ≤ L.length) (hlo : ∀ t, t < r → kl (L.getD t default).k s = true) (hhi : ∀ t, r ≤ t → t < L.length → kl (L.getD t default).k s = false) : ixN L s = r := by
  rcases Nat.lt_trichotomy (ixN L s) r with h | h | h
  · have := ixN_at (L := L) (s := s) (by omega); rw [hlo _ h] at this; cases this
  · exact h
  · have h1 := ixN_lo h; have := ixN_le L s; rw [hhi r (Nat.le_refl _) (by omega)] at h1; cases h1
def isN (L : List Nd) (s : ByteArray) : Bool := decide (ixN L s < L.length) && decide ((L.getD (ixN L s) default).k = s)
theorem isN_iff {L : List Nd} (hs : Srt L) {s : ByteArray} : isN L s = true ↔ ∃ d ∈ L, d.k = s := by
  unfold isN
  rw [Bool.and_eq_true, decide_eq_true_eq, decide_eq_true_eq]
  constructor
  · rintro ⟨h1, h2⟩
    exact ⟨_, by simp [h1], h2⟩
  · rintro ⟨d, hd, rfl⟩
    obtain ⟨i, hi, rfl⟩ := List.getElem_of_mem hd
    have hi' : L.getD i default = L[i] := by simp [hi]
    have e : ixN L L[i].k = i := ixN_of (by omega) (fun t ht => by have := hs.at ht hi; rwa [hi'] at this) (fun t h1 h2 => by
      rcases Nat.lt_or_ge i t with h3 | h3
      · have := kl_asym (hs.at h3 h2); rwa [hi'] at this
      · have : t = i := by omega
        subst this; rw [hi']; exact kl_irr _)
    rw [e, hi']
    exact ⟨hi, rfl⟩
/-- The node with a key. -/
theorem isN_node {L : List Nd} (hs : Srt L) {d : Nd} (hd : d ∈ L) : isN L d.k = true ∧ L.getD (ixN L d.k) default = d := by
  have h := (isN_iff hs).2 ⟨d, hd, rfl⟩
  refine ⟨h, ?_⟩
  unfold isN at h
  rw [Bool.and_eq_true, decide_eq_true_eq, decide_eq_true_eq] at h
  obtain ⟨i, hi, rfl⟩ := List.getElem_of_mem hd
  have hi' : L.getD i default = L[i] := by simp [hi]
  rcases Nat.lt_trichotomy (ixN L L[i].k) i with h1 | h1 | h1
  · have := kl_ne (hs.at h1 hi); rw [h.2, hi'] at this; exact absurd rfl this
  · rw [h1, hi']
  · have := kl_ne (hs.at h1 h.1); rw [h.2, hi'] at this; exact absurd rfl this
theorem isN_split {L : List Nd} {s : ByteArray} (h : isN L s = true) : ∃ d, L = L.take (ixN L s) ++ d :: L.drop (ixN L s + 1) ∧ d.k = s ∧ L.getD (ixN L s) default = d ∧ ixN L s < L.length := by
  unfold isN at h
  rw [Bool.and_eq_true, decide_eq_true_eq, decide_eq_true_eq] at h
  refine ⟨L.getD (ixN L s) default, ?_, h.2, rfl, h.1⟩
  have e : L.getD (ixN L s) default = L[ixN L s]'h.1 := by simp [h.1]
  rw [e]
  conv => lhs; rw [← List.take_append_drop (ixN L s) L]
  congr 1
  exact List.drop_eq_getElem_cons h.1

/-- Sorted nodes with one more, with one less. -/
theorem Srt.put {L : List Nd} (hs : Srt L) {d : Nd} (h : isN L d.k = false) : Srt (L.take (ixN L d.k) ++ d :: L.drop (ixN L d.k)) := by
  unfold Srt at hs ⊢
  have hs0 := hs
  rw [← List.take_append_drop (ixN L d.k) L, List.pairwise_append] at hs
  have lo : ∀ x ∈ L.take (ixN L d.k), kl x.k d.k = true := by
    intro x hx
    obtain ⟨i, hi, rfl⟩ := List.getElem_of_mem hx
    rw [List.length_take] at hi
    have := ixN_lo (L := L) (s := d.k) (j := i) (by omega)
    have e : L.getD i default = L[i]'(by omega) := by simp [show i < L.length by omega]
    rw [e] at this
    simpa using this
  have hi : ∀ x ∈ L.drop (ixN L d.k), kl d.k x.k = true := by
    intro x hx
    have hne : x.k ≠ d.k := by
      intro e
      have := (isN_iff hs0).2 ⟨x, List.mem_of_mem_drop hx, e⟩
      rw [h] at this; cases this
    obtain ⟨i, hi, rfl⟩ := List.getElem_of_mem hx
    rw [List.length_drop] at hi
    have := ixN_hi hs0 (s := d.k) (j := ixN L d.k + i) (by omega) (by omega)
    have e : L.getD (ixN L d.k + i) default = L[ixN L d.k + i]'(by omega) := by simp [show ixN L d.k + i < L.length by omega]
    rw [e] at this
    rw [List.getElem_drop] at hne ⊢
    cases e2 : kl d.k (L[ixN L d.k + i]'(by omega)).k with
    | true => rfl
    | false => exact absurd (kl_tot this e2) hne
  rw [List.pairwise_append, List.pairwise_cons]
  exact ⟨hs.1, ⟨hi, hs.2.1⟩, fun a ha b hb => by
    rcases List.mem_cons.1 hb with rfl | hb
    · exact lo a ha
    · exact hs.2.2 a ha b hb⟩
theorem Srt.same {A C : List Nd} {d e : Nd} (hs : Srt (A ++ d :: C)) (h : e.k = d.k) : Srt (A ++ e :: C) := by
  unfold Srt at hs ⊢
  rw [List.pairwise_append, List.pairwise_cons] at hs ⊢
  refine ⟨hs.1, ⟨by rw [h]; exact hs.2.1.1, hs.2.1.2⟩, fun a ha b hb => ?_⟩
  rcases List.mem_cons.1 hb with rfl | hb
  · rw [h]; exact hs.2.2 a ha d (by simp)
  · exact hs.2.2 a ha b (by simp [hb])
theorem Srt.less {A C : List Nd} {d : Nd} (hs : Srt (A ++ d :: C)) : Srt (A ++ C) := by
  unfold Srt at hs ⊢
  rw [List.pairwise_append, List.pairwise_cons] at hs
  rw [List.pairwise_append]
  exact ⟨hs.1, hs.2.1.2, fun a ha b hb => hs.2.2 a ha b (by simp [hb])⟩
theorem Srt.filter {L : List Nd} (hs : Srt L) (p : Nd → Bool) : Srt (L.filter p) := List.Pairwise.filter p hs
/-- Sorted nodes are known by which they are. -/
theorem Srt.eq : ∀ {L M : List Nd}, Srt L → Srt M → L.Perm M → L = M
  | [], M, _, _, h => (List.Perm.nil_eq h)
  | x :: L, [], _, _, h => absurd h.length_eq (by simp)
  | x :: L, y :: M, hL, hM, h => by
    unfold Srt at hL hM
    rw [List.pairwise_cons] at hL hM
    have e : x = y := by
      have h1 : x ∈ y :: M := h.subset (by simp)
      have h2 : y ∈ x :: L := h.symm.subset (by simp)
      rcases List.mem_cons.1 h1 with h1 | h1
      · exact h1
      · rcases List.mem_cons.1 h2 with h2 | h2
        · exact h2.symm
        · have := kl_trans (hL.1 y h2) (hM.1 x h1)
          rw [kl_irr] at this; cases this
    subst e
    rw [Srt.eq hL.2 hM.2 (List.Perm.cons_inv h)]
/-- What begins so lies side by side. -/
theorem pfx_run : ∀ {L : List Nd} (_ : Srt L) (P : ByteArray) (_ : ∀ d ∈ L, kl d.k P = false), L.takeWhile (fun d => pfx P d.k) = L.filter (fun d => pfx P d.k)
  | [], _, _, _ => rfl
  | x :: L, hs, P, hP => by
    unfold Srt at hs
    rw [List.pairwise_cons] at hs
    rw [List.takeWhile_cons, List.filter_cons]
    by_cases h : pfx P x.k = true
    · rw [if_pos h, if_pos h, pfx_run hs.2 P (fun d hd => hP d (by simp [hd]))]
    · rw [if_neg h, if_neg h]
      symm
      rw [List.filter_eq_nil_iff]
      intro d hd h2
      exact h (pfx_between h2 (hP x (by simp)) (hs.1 d hd))
theorem pfx_list {L : List Nd} (hs : Srt L) (P : ByteArray) : (L.drop (ixN L P)).takeWhile (fun d => pfx P d.k) = L.filter (fun d => pfx P d.k) := by
  have h1 : Srt (L.drop (ixN L P)) := List.Pairwise.sublist (List.drop_sublist _ _) hs
  rw [pfx_run h1 P (fun d hd => by
    obtain ⟨i, hi, rfl⟩ := List.getElem_of_mem hd
    rw [List.length_drop] at hi
    have := ixN_hi hs (s := P) (j := ixN L P + i) (by omega) (by omega)
    have e : L.getD (ixN L P + i) default = L[ixN L P + i]'(by omega) := by simp [show ixN L P + i < L.length by omega]
    rw [e] at this
    rw [List.getElem_drop]; exact this)]
  conv => rhs; rw [← List.take_append_drop (ixN L P) L, List.filter_append]
  have : (L.take (ixN L P)).filter (fun d => pfx P d.k) = [] := by
    rw [List.filter_eq_nil_iff]
    intro d hd h
    obtain ⟨i, hi, rfl⟩ := List.getElem_of_mem hd
    rw [List.length_take] at hi
    have h1 := ixN_lo (L := L) (s := P) (j := i) (by omega)
    have e : L.getD i default = L[i]'(by omega) := by simp [show i < L.length by omega]
    rw [e] at h1
    rw [List.getElem_take] at h
    rw [pfx_ge h] at h1; cases h1
  rw [this, List.nil_append]

/-- The document's nodes, in any order, and the program's, sorted. -/
structure Alike (L : List Nd) (X : List Nx) : Prop where
  srt : Srt L
  perm : (nds X).Perm L
theorem nds_len' (X : List Nx) : (nds X).length = X.length := by simp [nds]
theorem Alike.len {L : List Nd} {X : List Nx} (h : Alike L X) : L.length = X.length := by rw [← h.perm.length_eq, nds_len']
theorem nds_getD {X : List Nx} {i : Nat} : (nds X).getD i default = (X.getD i default).t := by
  simp only [nds, List.getD, List.getElem?_map]
  cases X[i]? <;> rfl
theorem atN_iff {X : List Nx} {s : ByteArray} : atN X s < X.length ↔ ∃ d ∈ nds X, d.k = s := by
  unfold atN
  rw [List.findIdx_lt_length]
  constructor
  · rintro ⟨x, hx, h⟩
    exact ⟨x.t, List.mem_map.2 ⟨x, hx, rfl⟩, of_decide_eq_true h⟩
  · rintro ⟨d, hd, h⟩
    obtain ⟨x, hx, rfl⟩ := List.mem_map.1 hd
    exact ⟨x, hx, decide_eq_true h⟩
theorem Alike.there {L : List Nd} {X : List Nx} (h : Alike L X) (s : ByteArray) : isN L s = decide (atN X s < X.length) := by
  rw [Bool.eq_iff_iff, isN_iff h.srt, decide_eq_true_eq, atN_iff]
  exact ⟨fun ⟨d, h1, h2⟩ => ⟨d, h.perm.symm.subset h1, h2⟩, fun ⟨d, h1, h2⟩ => ⟨d, h.perm.subset h1, h2⟩⟩
theorem Alike.node {L : List Nd} {X : List Nx} (h : Alike L X) {s : ByteArray} (hs : atN X s < X.length) : L.getD (ixN L s) default = (X.getD (atN X s) default).t := by
  have hk := atN_key hs
  have hm : (X.getD (atN X s) default).t ∈ L := h.perm.subset (List.mem_map.2 ⟨_, by simp [hs], rfl⟩)
  have := (isN_node h.srt hm).2
  rw [hk] at this
  exact this
end Go.Proofs.YtcbpppdmkhpkkaaGreat
/- The program's tree in memory; contracts of strings.Compare, of the comparison of a node with a key, of lengths. -/
namespace Go.Proofs.YtcbpppdmkhpkkaaGreat
open Go.RowKit
set_option maxRecDepth 100000

def ptr (q : Nat) : Value := .pointer (some ⟨q, 0, none⟩)
/-- The program's tree at p has the nodes L, the one at i at block qs[i]; neither p nor its row, a node, or a value lies in the blocks F, and p not among them. -/
structure Pt (w : World) (B p : Nat) (F : List Nat) (a : Option Addr) (cap : Nat) (L : List Nx) (qs : List Nat) : Prop where
  tree : Whole w p 152 #[.slice a L.length cap]
  len : qs.length = L.length
  ptrs : ValsAt w a (qs.map ptr)
  nodes : ∀ i, i < L.length → Whole w (qs.getD i 0) 58 (L.getD i default).cells.toArray
  ok : NOk w (p :: F) L
  hp : B ≤ p
  out : p ∉ F
  away : L ≠ [] → ∀ q, a = some q → q.block ∉ p :: F
  qout : ∀ q ∈ qs, q ∉ p :: F
  few : L.length ≤ 256
  lcap : L.length ≤ cap
  mcap : cap ≤ maxLen
  nil : a = none → cap = 0
section
variable {w w' : World} {B p : Nat} {F F' S : List Nat} {a : Option Addr} {cap : Nat} {L : List Nx} {qs : List Nat}
theorem qs_ne {L : List Nx} {qs : List Nat} (h : qs.length = L.length) : qs.map ptr ≠ [] → L ≠ [] := by
  rintro h0 rfl
  simp at h
  subst h
  exact h0 rfl
theorem getD_mem {qs : List Nat} {i : Nat} (h : i < qs.length) : qs.getD i 0 ∈ qs := by simp [h]
theorem Pt.keep (h : Pt w B p F a cap L qs) (hf : Frm S w w') (hS : ∀ x ∈ S, x ∈ F ∨ w.heap.size ≤ x) (hF : ∀ x ∈ F', x ∈ F ∨ w.heap.size ≤ x) : Pt w' B p F' a cap L qs := by
  have hq : ∀ i, i < L.length → qs.getD i 0 ∈ qs := fun i hi => getD_mem (by rw [h.len]; exact hi)
  have hql : ∀ q ∈ qs, q < w.heap.size := by
    intro q hq
    obtain ⟨i, hi, rfl⟩ := List.getElem_of_mem hq
    have := (h.nodes i (by rw [← h.len]; exact hi)).lt
    simpa [hi] using this
  have hpl := h.tree.lt
  have nF : ∀ x, x ∉ p :: F → x < w.heap.size → x ∉ p :: F' := by
    intro x hx hl hm
    rcases List.mem_cons.1 hm with rfl | hm
    · exact hx (by simp)
    · rcases hF x hm with h1 | h1
      · exact hx (by simp [h1])
      · omega
  have nS : ∀ x, x ∉ p :: F → x < w.heap.size → x ∉ S := by
    intro x hx hl hm
    rcases hS x hm with h1 | h1
    · exact hx (by simp [h1])
    · omega
  have ha : L ≠ [] → ∀ q, a = some q → q.block < w.heap.size := fun h0 => vals_lt h.ptrs (by
    intro e; simp at e; have := h.len; rw [e] at this; exact h0 (List.eq_nil_of_length_eq_zero this.symm))
  refine ⟨hf.whole h.tree (fun hm => ?_), h.len, h.ptrs.keep hf (fun h0 q hq' => ?_), fun i hi => hf.whole (h.nodes i hi) (nS _ (h.qout _ (hq i hi)) (h.nodes i hi).lt), ?_, h.hp, fun hm => ?_, fun h0 q hq' => ?_, fun q hq' => ?_, h.few, h.lcap, h.mcap, h.nil⟩
  · rcases hS p hm with h1 | h1
    · exact h.out h1
    · omega
  · exact nS _ (h.away (qs_ne h.len h0) q hq') (ha (qs_ne h.len h0) q hq')
  · refine h.ok.keep hf (fun x hx => ?_) (fun x hx => ?_)
    · rcases hS x hx with h1 | h1
      · exact .inl (by simp [h1])
      · exact .inr h1
    · rcases List.mem_cons.1 hx with rfl | hx
      · exact .inl (by simp)
      · rcases hF x hx with h1 | h1
        · exact .inl (by simp [h1])
        · exact .inr h1
  · rcases hF p hm with h1 | h1
    · exact h.out h1
    · omega
  · exact nF _ (h.away h0 q hq') (ha h0 q hq')
  · exact nF _ (h.qout q hq') (hql q hq')
/-- One of its nodes. -/
theorem Pt.at (h : Pt w B p F a cap L qs) {i : Nat} (hi : i < L.length) :
    ∃ b off q, a = some ⟨b, off, none⟩ ∧ w.cell? ⟨b, off + i, none⟩ = some (.pointer (some ⟨q, 0, none⟩)) ∧ q = qs.getD i 0 ∧ w.cell? ⟨q, 0, none⟩ = some (.string (L.getD i default).t.k) ∧ w.cell? ⟨q, 1, none⟩ = some (.slice (L.getD i default).a (L.getD i default).t.v.length (L.getD i default).c) ∧
      w.cell? ⟨q, 2, none⟩ = some (.int .u64 ((L.getD i default).t.ver : Nat)) ∧ w.cell? ⟨q, 3, none⟩ = some (.int .u64 ((L.getD i default).t.own : Nat)) ∧ NxOk w (p :: F) (L.getD i default) := by
  have hl : i < qs.length := by rw [h.len]; exact hi
  have hn := h.nodes i hi
  have hu : (qs.map ptr)[i]? = some (ptr (qs.getD i 0)) := by simp [hl]
  rcases h.ptrs with h0 | ⟨b, off, rfl, hc⟩
  · rw [h0] at hu; simp at hu
  · exact ⟨b, off, _, rfl, hc i _ hu, rfl, hn.cell 0, hn.cell 1, hn.cell 2, hn.cell 3, h.ok _ (by simp [hi])⟩
end

/-- strings.Compare. -/
theorem compare_any (a b : ByteArray) (w : World) :
    Calls Tryz.prog 112 #[.string a, .string b] w fun e w' => e = .returned (.int .i64 (Lib.compareBytes a.data.toList b.data.toList)) ∧ w = w' := by
  have h1 : ∀ w, Calls Tryz.prog 140 #[.string a, .string b] w fun e w' => e = .returned (.int .i64 (Lib.compareBytes a.data.toList b.data.toList)) ∧ w = w' := by
    intro w
    go_enter Tryz.func140, Tryz.ntmps140
    go_wp2
    rw [run_callFunc_extern Tryz.func155 (by kernel_rfl) (by kernel_rfl) (by kernel_rfl) (e := Extern.BytealgCompare.compare) (by kernel_rfl), Lib.run_compareString]
    simp only [Result.andThen]
    rw [Oper.upon_value]
    go_wp2
    go_ret
    exact ⟨rfl, rfl⟩
  go_enter Tryz.func112, Tryz.ntmps112
  go_wp2_with ((with_reducible refine (h1 _).mono ?_); rintro e w' ⟨rfl, rfl⟩)
  go_ret
  exact ⟨rfl, rfl⟩
theorem cmp_any (q : Nat) (k s : ByteArray) (w : World) (h : w.cell? ⟨q, 0, none⟩ = some (.string k)) :
    Calls Tryz.prog 111 #[.pointer (some ⟨q, 0, none⟩), .string s] w fun e w' => e = .returned (.int .i64 (Lib.compareBytes k.data.toList s.data.toList)) ∧ w = w' := by
  go_enter Tryz.func111, Tryz.ntmps111
  go_wp2_with ((with_reducible refine (compare_any _ _ _).mono ?_); rintro e w' ⟨rfl, rfl⟩)
  go_ret
  exact ⟨rfl, rfl⟩
/-- What a key and a value are refused for by their lengths (0: nothing). -/
def lenC (k n : Nat) : Nat := if k < 1 ∨ 64 < k then 10 else if 3840 < n then 3 else 0
theorem lengths_any (s : ByteArray) (va : Option Addr) (vn vc : Nat) (w : World) (hs : s.size ≤ 9223372036854775807) (hv : vn ≤ 9223372036854775807) :
    Calls Tryz.prog 128 #[.string s, .slice va vn vc] w fun e w' => e = .returned (.int .i64 (lenC s.size vn : Nat)) ∧ w = w' := by
  unfold lenC
  by_cases h1 : s.size < 1
  · rw [if_pos (.inl h1)]
    have h1' : s.toList = [] := by
      have : s.data.toList = [] := List.eq_nil_of_length_eq_zero (by rw [← Lib.size_eq]; omega)
      rw [Lib.toList_data]; exact this
    have h3 : ((s.size : Int) == 0) = true := by rw [beq_iff_eq]; omega
    go_enter Tryz.func128, Tryz.ntmps128
    go_wp2
    go_ret
    exact ⟨rfl, rfl⟩
  · have h3 : ((s.size : Int) == 0) = false := by rw [beq_eq_false_iff_ne]; omega
    by_cases h2 : 64 < s.size
    · rw [if_pos (.inr h2)]
      go_enter Tryz.func128, Tryz.ntmps128
      go_wp2
      go_ret
      exact ⟨rfl, rfl⟩
    · rw [if_neg (by omega)]
      by_cases h4 : 3840 < vn
      · rw [if_pos h4]
        go_enter Tryz.func128, Tryz.ntmps128
        go_wp2
        go_ret
        exact ⟨rfl, rfl⟩
      · rw [if_neg h4]
        go_enter Tryz.func128, Tryz.ntmps128
        go_wp2
        go_ret
        exact ⟨rfl, rfl⟩
end Go.Proofs.YtcbpppdmkhpkkaaGreat
/- Contracts of slices.Grow (of nil) and slices.Concat over slices of nodes' pointers. -/
namespace Go.Proofs.YtcbpppdmkhpkkaaGreat
open Go.RowKit
set_option maxRecDepth 100000

theorem Tryz.info153 : (Tryz.prog.info? 153).map (fun i => (i.zero, i.size, i.bytes)) = some (some (.pointer none), 1, 8) := by kernel_rfl

/-- A row of the call's own of nodes' pointers. -/
def OwnP (w : World) (base : Nat) (a : Option Addr) (cap : Nat) (l : List Value) : Prop := w.ownsRow base 153 1 (.slice a l.length cap) l.length l
theorem OwnP.nil (w : World) (base : Nat) : OwnP w base none 0 [] := World.ownsRow_nil _ _ _ _
theorem OwnP.lt {w : World} {base : Nat} {a : Option Addr} {cap : Nat} {l : List Value} (h : OwnP w base a cap l) : ∀ x, a = some x → base ≤ x.block ∧ x.block < w.heap.size := fun x hx => World.ownsRow.lt h x.block (by rw [hx]; rfl)
theorem OwnP.caps {w : World} {base : Nat} {a : Option Addr} {cap : Nat} {l : List Value} (h : OwnP w base a cap l) : l.length ≤ cap ∧ cap ≤ maxLen ∧ (a = none → cap = 0) := by
  rcases h.2 with ⟨hv, hl⟩ | ⟨g, c, cur, hv, _, _, h1, h2, _⟩
  · simp only [Value.slice.injEq] at hv
    rw [hl, hv.2.2]; exact ⟨Nat.le_refl _, Nat.zero_le _, fun _ => rfl⟩
  · simp only [Value.slice.injEq] at hv
    obtain ⟨rfl, _, rfl⟩ := hv
    exact ⟨h1, h2, fun h => by cases h⟩
theorem OwnP.vals {w : World} {base : Nat} {a : Option Addr} {cap : Nat} {l : List Value} (h : OwnP w base a cap l) : ValsAt w a l := by
  have hh : w.ownsRow base 153 1 (.slice a l.length cap) l.length l := h
  rcases hh.2 with ⟨_, hl⟩ | ⟨g, c, cur, hv, _⟩
  · exact .inl (List.eq_nil_of_length_eq_zero hl)
  · simp only [Value.slice.injEq] at hv
    obtain ⟨rfl, _, rfl⟩ := hv
    refine .inr ⟨g, 0, rfl, fun i u hu => ?_⟩
    have hi : i < l.length := by
      rcases Nat.lt_or_ge i l.length with h' | h'
      · exact h'
      · rw [List.getElem?_eq_none h'] at hu; cases hu
    rw [Nat.zero_add, hh.cellAt i (by omega)]
    exact hu
theorem OwnP.keep {w w' : World} {base : Nat} {a : Option Addr} {cap : Nat} {l : List Value} {S : List Nat} (h : OwnP w base a cap l) (hf : Frm S w w') (hn : ∀ x, a = some x → x.block ∉ S) : OwnP w' base a cap l :=
  hf.own h (fun g hg => by
    cases a with
    | none => simp [Value.ownBlock] at hg
    | some x => simp only [Value.ownBlock, Option.some.injEq] at hg; subst hg; exact hn x rfl)

/-- A row with no element yet. -/
def GrowP (w : World) (e : Ending) (w' : World) : Prop := ∃ a' cap', e = .returned (.slice a' 0 cap') ∧ OwnP w' w.heap.size a' cap' [] ∧ Frm [] w w'

set_option maxHeartbeats 1000000 in
theorem growP_any (n : Nat) (w : World) (hn : n ≤ 100000) : Calls Tryz.prog 130 #[.slice none 0 0, .int .i64 n] w (GrowP w) := by
  by_cases h0 : n = 0
  · subst h0
    go_enter Tryz.func130, Tryz.ntmps130
    go_wp2
    go_ret
    exact ⟨none, 0, rfl, OwnP.nil _ _, Frm.refl _ _⟩
  · obtain ⟨i0, hi, hz0, hz1, hz2⟩ := info_parts Tryz.info153
    have h1 : ¬ ((n : Int) < 0) := by omega
    have h4 : 0 < (n : Int) := by omega
    have hold : (Builtin.firstCells i0.size 0 (.slice none 0 0)).run Tryz.prog w.drew = .ok ([] : List Value).toArray w.drew := run_firstCells_none w.drew i0.size 0 0 0
    have hrz : ∀ ty, (Builtin.append_ #[150, 3] ty #[.slice none 0 0, .int .i64 (n : Int)]).run Tryz.prog w =
        .ok (.slice (some ⟨w.heap.size, 0, none⟩) n (grownCap w n 0 153)) (w.drew.alloc (.cells (#[] ++ Builtin.zeroCells #[.pointer none] n ++ Builtin.zeroCells #[.pointer none] (grownCap w n 0 153 - n)) 153)) := fun ty => by
      have h := Lib.run_append_grow_zeros w 150 3 ty 153 i0 (.pointer none) .i64 .i64 Tryz.underlying150 Tryz.underlying3 hi hz0 none 0 0 [] hold n (by omega) (by omega) (by omega) (by omega)
        (by rw [hz2]; omega)
        (by rw [hz2, Nat.zero_add]; exact growslice_fits (by omega) (by omega))
      rw [Nat.zero_add] at h
      exact h
    have hGn : n ≤ grownCap w n 0 153 := grownCap_ge w _ _ _
    have hGm := grownCap_le_maxLen w n 0 153 (by unfold maxLen; omega)
    obtain ⟨G, hG⟩ : ∃ G, G = grownCap w n 0 153 := ⟨_, rfl⟩
    rw [← hG] at hrz hGn hGm
    have hG63 : G ≤ 9223372036854775807 := by unfold maxLen at hGm; omega
    have hsz : (Builtin.zeroCells #[.pointer none] n ++ Builtin.zeroCells #[.pointer none] (G - n)).size = G * 1 := by
      rw [Array.size_append, size_zeroCells, size_zeroCells]
      show n * 1 + (G - n) * 1 = G * 1
      omega
    have HO : Hid (OwnP (w.alloc (.cells (Builtin.zeroCells #[.pointer none] n ++ Builtin.zeroCells #[.pointer none] (G - n)) 153)).drew w.heap.size (some ⟨w.heap.size, 0, none⟩) G []) := by
      have := World.ownsRow_made (base := w.heap.size) (e := 153) (size := 1) w.drew (Builtin.zeroCells #[.pointer none] n ++ Builtin.zeroCells #[.pointer none] (G - n)) G (Nat.le_refl _) hGm hsz
      exact this
    have HF : Hid (Frm [] w (w.alloc (.cells (Builtin.zeroCells #[.pointer none] n ++ Builtin.zeroCells #[.pointer none] (G - n)) 153)).drew) := ((Frm.refl _ _).alloc _).drew
    simp only [Array.empty_append] at hrz
    clear hold hG hsz hi hz0 hz1 hz2 h0 hGm
    go_enter Tryz.func130, Tryz.ntmps130
    go_wp2_with (at_builtin; refine Lib.wpList_append_run _ rfl _ _ _ _ rfl _ _ rfl rfl _ _ (hrz _) ?_)
    all_goals
      go_ret
      exact ⟨_, _, rfl, HO.out, HF.out⟩

/-- One of the slices that are joined. -/
structure PSl where
  a : Option Addr
  cap : Nat
  l : List Value
instance : Inhabited PSl := ⟨⟨none, 0, []⟩⟩
def PSlIn (w : World) (s : PSl) : Prop := ValsAt w s.a s.l ∧ (s.a = none → s.cap = 0) ∧ s.l.length ≤ s.cap ∧ s.cap ≤ 9223372036854775807 ∧ ∀ u ∈ s.l, u.oneCell' = true
theorem PSlIn.keep {w w' : World} {s : PSl} (h : PSlIn w s) (hf : Frm [] w w') : PSlIn w' s := ⟨h.1.keep hf (by simp), h.2⟩
def pall (ss : List PSl) : List Value := ss.flatMap PSl.l
theorem pall_take {ss : List PSl} {k : Nat} (h : k < ss.length) : pall (ss.take (k + 1)) = pall (ss.take k) ++ (ss.getD k default).l := by
  have e : ss.getD k default = ss[k] := by simp [h]
  unfold pall
  rw [e, List.take_succ_eq_append_getElem h, List.flatMap_append, List.flatMap_singleton]
theorem pall_take_le (ss : List PSl) (k : Nat) : (pall (ss.take k)).length ≤ (pall ss).length := by
  have h : pall (ss.take k) ++ pall (ss.drop k) = pall ss := by unfold pall; rw [← List.flatMap_append, List.take_append_drop]
  have := congrArg List.length h
  rw [List.length_append] at this
  omega
/-- Slices that lie side by side. -/
def PSlsIn (w : World) (g : Nat) (ss : List PSl) : Prop := ∀ k, k < ss.length → w.cell? ⟨g, k, none⟩ = some (.slice (ss.getD k default).a (ss.getD k default).l.length (ss.getD k default).cap) ∧ PSlIn w (ss.getD k default)
theorem PSlsIn.keep {w w' : World} {g : Nat} {ss : List PSl} (h : PSlsIn w g ss) (hf : Frm [] w w') : PSlsIn w' g ss := fun k hk =>
  ⟨(hf.cell (p := ⟨g, k, none⟩) (block_lt_of_cell (h k hk).1) (by simp)).trans (h k hk).1, (h k hk).2.keep hf⟩

def RetP (w : World) (l : List Value) (e : Ending) (w' : World) : Prop := ∃ a' cap', e = .returned (.slice a' l.length cap') ∧ OwnP w' w.heap.size a' cap' l ∧ Frm [] w w'
def CatPRel (w0 : World) (base : Nat) (ss : List PSl) (n : Nat) (v i : Value) (wr : World) : Prop :=
  ∃ (k : Nat) (a : Option Addr) (cap : Nat), k ≤ n ∧ i = .int .i64 k ∧ v = .slice a (pall (ss.take k)).length cap ∧ OwnP wr base a cap (pall (ss.take k)) ∧ Frm [] w0 wr

set_option maxHeartbeats 2000000 in
theorem concatP_any {w : World} {g : Nat} {ss : List PSl} (h : PSlsIn w g ss) {n : Nat} (hn : n = ss.length) (hn3 : n ≤ 10) (hsz : (pall ss).length ≤ 100000) :
    Calls Tryz.prog 96 #[.slice (some ⟨g, 0, none⟩) n n] w (RetP w (pall ss)) := by
  have H := Lib.hid h; clear h
  have HN := Lib.hid hn; clear hn
  have HS := Lib.hid hsz; clear hsz
  go_enter Tryz.func96, Tryz.ntmps96
  go_wp2
  go_loop [3, 11] (fun s i => ∃ k : Nat, k ≤ n ∧ i = .int .i64 k ∧ s = .int .i64 ((pall (ss.take k)).length : Nat)) (fun _ i => n - (intOf i).toNat)
  case atStart => exact ⟨0, Nat.zero_le _, rfl, rfl⟩
  case round =>
    obtain ⟨k, hk, rfl, rfl⟩ := hrel
    by_cases hlt : k < n
    · obtain ⟨c0, s1, s2, s3, s4, s5⟩ := H.out k (by have := HN.out; omega)
      have st := pall_take (ss := ss) (k := k) (by have := HN.out; omega)
      have le1 := pall_take_le ss (k + 1)
      have le2 := HS.out
      rw [st, List.length_append] at le1
      have st2 : (pall (ss.take (k + 1))).length = (pall (ss.take k)).length + (ss.getD k default).l.length := by rw [st, List.length_append]
      obtain ⟨m, hm⟩ : ∃ m, m = (pall (ss.take k)).length := ⟨_, rfl⟩
      obtain ⟨s, hs⟩ : ∃ s, s = ss.getD k default := ⟨_, rfl⟩
      rw [← hs] at c0 s1 s2 s3 s4 s5 le1 st2
      rw [← hm] at le1 st2 ⊢
      have ST := Lib.hid st2
      have hmb : m + s.l.length ≤ 100000 := by omega
      clear s1 s2 s5 st st2 hm hs le1 le2
      obtain ⟨sa, sc, sl⟩ := s
      simp only at c0 s3 s4 ST hmb
      have hlt' : (k : Int) < (n : Int) := by omega
      have hneg : ¬ ((m : Int) + (sl.length : Int) < 0) := by omega
      go_wp2
      go_round
      case rel => exact ⟨k + 1, by omega, by go_num, same_int (by rw [ST.out]; omega)⟩
      case measure => simp [intOf]; omega
    · obtain rfl : k = n := by omega
      have eall : pall (ss.take k) = pall ss := by rw [List.take_of_length_le (by have := HN.out; omega)]
      rw [eall]
      obtain ⟨m, hm⟩ : ∃ m, m = (pall ss).length := ⟨_, rfl⟩
      rw [← hm]
      have hm1 : m ≤ 100000 := by have := HS.out; omega
      have HM := Lib.hid hm; clear hm eall
      go_wp2_with fail
      refine (growP_any m w hm1).mono ?_
      rintro e w1 ⟨a1, c1, rfl, ho, hf⟩
      have HO := Lib.hid ho; clear ho
      have HF := Lib.hid hf; clear hf
      clear hlt hk
      go_wp2
      go_loopw [6, 27] (fun v i wr => CatPRel w w.heap.size ss k v i wr) (fun _ i _ => k - (intOf i).toNat)
      case atStart => exact ⟨0, a1, c1, Nat.zero_le _, rfl, rfl, HO.out, HF.out⟩
      case round =>
        obtain ⟨j, aj, cj, hj, rfl, rfl, hown, hf⟩ := hrel
        have HFJ := Lib.hid hf; clear hf
        have HOJ := Lib.hid hown; clear hown
        by_cases hlt : j < k
        · obtain ⟨c0, s1, s2, s3, s4, s5⟩ := (H.out.keep HFJ.out) j (by have := HN.out; omega)
          have st := pall_take (ss := ss) (k := j) (by have := HN.out; omega)
          have le1 := pall_take_le ss (j + 1)
          have le2 := HS.out
          rw [st, List.length_append] at le1
          obtain ⟨s, hs⟩ : ∃ s, s = ss.getD j default := ⟨_, rfl⟩
          rw [← hs] at c0 s1 s2 s3 s4 s5 le1 st
          obtain ⟨lj, hlj⟩ : ∃ lj, lj = pall (ss.take j) := ⟨_, rfl⟩
          rw [← hlj] at le1 st HOJ ⊢
          obtain ⟨sa, sc, sl⟩ := s
          simp only at c0 s1 s2 s3 s4 s5 le1 st
          have ST := Lib.hid st
          have S1 := Lib.hid s1
          have S2 := Lib.hid s2
          have S5 := Lib.hid s5
          clear st hlj hs s1 s2 s5
          have hlt' : (j : Int) < (k : Int) := by omega
          obtain ⟨i0, hi, hz0, hz1, hz2⟩ := info_parts Tryz.info153
          have HI := Lib.hid hi; clear hi
          have HZ0 := Lib.hid hz0; clear hz0
          have HZ1 := Lib.hid hz1; clear hz1
          have HZ2 := Lib.hid hz2; clear hz2
          have hbz : w.heap.size ≤ wr.heap.size := HFJ.out.size
          obtain ⟨nj, hnj⟩ : ∃ nj, nj = lj.length := ⟨_, rfl⟩
          obtain ⟨ns, hns⟩ : ∃ ns, ns = sl.length := ⟨_, rfl⟩
          rw [← hns] at c0 s3 le1
          rw [← hnj] at le1 ⊢
          have HNJ := Lib.hid hnj; clear hnj
          have HNS := Lib.hid hns; clear hns
          have hfit1 : nj + ns ≤ 1000000000 := by omega
          have hown1 : wr.ownsRow w.heap.size 153 1 (.slice aj nj cj) nj lj := by rw [HNJ.out]; exact HOJ.out
          have HOWN1 := Lib.hid hown1; clear hown1
          go_wp2_with (at_builtin; refine wpList_appV rfl (.tmp 31) (.tmp 32) 150 rfl w.heap.size 153 i0 (.pointer none) 8 Tryz.underlying150 HI.out HZ0.out rfl HZ1.out HZ2.out (by decide) _ nj lj rfl HOWN1.out _ _ _ sl rfl S1.out HNS.out S5.out S2.out hfit1 hbz ?_)
          intro a2 c2 w2 happ
          have HF2 := Lib.hid (HFJ.out.grown happ.grown (fun g hg => .inr (by
            cases aj with
            | none => simp [Value.ownBlock] at hg
            | some x => simp only [Value.ownBlock, Option.some.injEq] at hg; subst hg; exact (HOJ.out.lt x rfl).1)))
          have ho2 : OwnP w2 w.heap.size a2 c2 (lj ++ sl) := by
            have h1 := happ.own
            rw [HNJ.out, HNS.out] at h1
            unfold OwnP
            rw [List.length_append]; exact h1
          have HO2 := Lib.hid ho2
          clear happ ho2 hbz
          go_wp2
          go_roundw
          case rel => exact ⟨j + 1, a2, c2, by omega, by go_num, by rw [ST.out, List.length_append, ← HNJ.out, ← HNS.out], by rw [ST.out]; exact HO2.out, HF2.out⟩
          case measure => simp [intOf]; omega
        · obtain rfl : j = k := by omega
          have eall : pall (ss.take j) = pall ss := by rw [List.take_of_length_le (by have := HN.out; omega)]
          rw [eall] at HOJ ⊢
          have FIN : Hid (RetP w (pall ss) (.returned (.slice aj (pall ss).length cj)) wr) := ⟨aj, cj, rfl, HOJ.out, HFJ.out⟩
          clear eall
          go_wp2
          go_ret
          exact FIN.out
end Go.Proofs.YtcbpppdmkhpkkaaGreat
/- Contracts of strings.Clone, strings.HasPrefix (the library's own contracts, laid at this program), of alone. -/
namespace Go.Proofs.YtcbpppdmkhpkkaaGreat
open Go.RowKit
set_option maxRecDepth 100000

theorem sclone_any (s : ByteArray) (w : World) (hs : s.size ≤ 281474976710656) :
    Calls Tryz.prog 114 #[.string s] w fun e w' => e = .returned (.string s) ∧ Frm [] w w' := by
  have h := Lib.hid (fun w => Tryz.stringslite_Clone s w hs)
  clear hs
  go_enter Tryz.func114, Tryz.ntmps114
  go_wp2_with ((with_reducible refine (h.out _).mono ?_); rintro e w' ⟨rfl, hb⟩)
  go_ret
  exact ⟨rfl, Frm.ofBelow hb⟩
theorem prefix_any (s p : ByteArray) (w : World) :
    Calls Tryz.prog 76 #[.string s, .string p] w fun e w' => e = .returned (.bool (pfx p s)) ∧ w = w' :=
  (Tryz.strings_HasPrefix s p w).mono fun _ _ h => ⟨h.1, h.2.symm⟩

/-- A node in memory of its own. -/
def AloneEnd (w : World) (k : ByteArray) (v : List Nat) (n ver own : Nat) (e : Ending) (w' : World) : Prop :=
  ∃ a' c', e = .returned (.agg #[.string k, .slice a' n c', .int .u64 (ver : Nat), .int .u64 (own : Nat)]) ∧ Bytes w' a' v ∧ (a' = none → c' = 0) ∧ (∀ q, a' = some q → w.heap.size ≤ q.block) ∧ Frm [] w w'

set_option maxRecDepth 100000 in
set_option maxHeartbeats 2000000 in
theorem alone_any (k : ByteArray) (a : Option Addr) (n c ver own : Nat) (v : List Nat) (w : World) (hb : Bytes w a v) (hn : n = v.length) (hnil : a = none → c = 0) (hk : k.size ≤ 281474976710656) (hfit : n ≤ 140737488355328) :
    Calls Tryz.prog 77 #[.agg #[.string k, .slice a n c, .int .u64 (ver : Nat), .int .u64 (own : Nat)]] w (AloneEnd w k v n ver own) := by
  obtain ⟨g1, hg1⟩ : ∃ g, g = w.heap.size := ⟨_, rfl⟩
  obtain ⟨wA, hA⟩ : ∃ wA, wA = w.alloc (.cells #[.string k, .slice a n c, .int .u64 (ver : Nat), .int .u64 (own : Nat)] 58) := ⟨_, rfl⟩
  obtain ⟨g2, hg2⟩ : ∃ g, g = wA.heap.size := ⟨_, rfl⟩
  obtain ⟨wB, hB⟩ : ∃ wB, wB = wA.alloc (.cells #[.string ⟨#[]⟩, .slice none 0 0, .int .u64 0, .int .u64 0] 58) := ⟨_, rfl⟩
  have hcA := Whole.made w 58 #[.string k, .slice a n c, .int .u64 (ver : Nat), .int .u64 (own : Nat)]
  rw [← hA, ← hg1] at hcA
  have hcB := Whole.made wA 58 #[.string ⟨#[]⟩, .slice none 0 0, .int .u64 0, .int .u64 0]
  rw [← hB, ← hg2] at hcB
  have hfAB : Frm [] wA wB := by rw [hB]; exact (Frm.refl _ _).alloc _
  have hfB : Frm [] w wB := by rw [hB, hA]; exact ((Frm.refl _ _).alloc _).alloc _
  have hcA' := hfAB.whole hcA (by simp)
  have h12 : g1 < g2 := by have := hcA.lt; omega
  have hgs : w.heap.size ≤ g1 := by omega
  obtain rfl : g2 = g1 + 1 := by rw [hg2, hA, hg1]; simp
  have HK := Lib.hid (fun w => sclone_any k w hk)
  have HB := Lib.hid hb
  have HN := Lib.hid hn
  have HNIL := Lib.hid hnil
  have HA := Lib.hid hA
  have HBB := Lib.hid hB
  have HG1 := Lib.hid hg1
  have HG2 := Lib.hid hg2
  have HFB := Lib.hid hfB
  have HCA := Lib.hid hcA'
  have HCB := Lib.hid hcB
  have c0 := hcA'.cell 0
  simp at c0
  have f0 := hcA'.free 0
  clear hb hn hnil hk hA hB hg1 hg2 hcA hcB hfAB hfB hcA'
  go_enter Tryz.func77, Tryz.ntmps77
  go_wp2_with fail
  rw [← HA.out, ← HBB.out, ← HG1.out]
  refine (HK.out wB).mono ?_
  rintro e w1 ⟨rfl, hf1⟩
  have hcA1 := hf1.whole HCA.out (by simp)
  have c0 := hcA1.cell 0
  have f0 := hcA1.free 0
  simp at c0
  obtain ⟨w2, hw2⟩ : ∃ w2, w2 = w1.setCell ⟨g1, 0, none⟩ (.string k) := ⟨_, rfl⟩
  have hcA2 : Whole w2 g1 58 #[.string k, .slice a n c, .int .u64 (ver : Nat), .int .u64 (own : Nat)] := by
    have := hcA1.put 0 (.string k); rw [hw2]; simpa using this
  have hf2 : Frm [] w w2 := by rw [hw2]; exact (HFB.out.trans hf1 (U := []) (by simp) (by simp)).setCell (.inr hgs) _
  have hcB2 : Whole w2 (g1 + 1) 58 #[.string ⟨#[]⟩, .slice none 0 0, .int .u64 0, .int .u64 0] := by
    rw [hw2]; exact (hf1.whole HCB.out (by simp)).other (p := ⟨g1, 0, none⟩) (by show (g1 + 1) ≠ g1; omega) _
  have HB2 := Lib.hid (clone_any a n c v w2 (hf2.bytes HB.out (by simp)) HN.out HNIL.out hfit)
  have HW2 := Lib.hid hw2
  have HF2 := Lib.hid hf2
  have HCA2 := Lib.hid hcA2
  have HCB2 := Lib.hid hcB2
  have d1 := hcA2.cell 1
  simp at d1
  rw [hw2] at d1
  clear hcA1 hcA2 hcB2 hf2 hw2 hf1
  go_wp2_with fail
  rw [← HW2.out]
  refine HB2.out.mono ?_
  rintro e w3 ⟨av, cv, rfl, hown, hf3⟩
  rw [← HN.out] at hown ⊢
  have hbv := own_bytes (by rw [HN.out] at hown; exact hown) HB.out.1
  have hlv : ∀ q, av = some q → w2.heap.size ≤ q.block := fun q hq => (World.ownsRow.lt hown q.block (by rw [hq]; rfl)).1
  have hcA3 := hf3.whole HCA2.out (by simp)
  have hcB3 := hf3.whole HCB2.out (by simp)
  have e1 := hcA3.free 1
  have ec1 := hcA3.cell 1
  simp at ec1
  obtain ⟨w4, hw4⟩ : ∃ w4, w4 = w3.setCell ⟨g1, 1, none⟩ (.slice av n cv) := ⟨_, rfl⟩
  have hcA4 : Whole w4 g1 58 #[.string k, .slice av n cv, .int .u64 (ver : Nat), .int .u64 (own : Nat)] := by
    have := hcA3.put 1 (.slice av n cv); rw [hw4]; simpa using this
  have hcB4 : Whole w4 (g1 + 1) 58 #[.string ⟨#[]⟩, .slice none 0 0, .int .u64 0, .int .u64 0] := by
    rw [hw4]; exact hcB3.other (p := ⟨g1, 1, none⟩) (by show (g1 + 1) ≠ g1; omega) _
  have HW4 := Lib.hid hw4
  have m0 := hcA4.cell 0
  have m1 := hcA4.cell 1
  have m2 := hcA4.cell 2
  have m3 := hcA4.cell 3
  have b0 := hcB4.cell 0
  have b1 := hcB4.cell 1
  have b2 := hcB4.cell 2
  have b3 := hcB4.cell 3
  have k0 := hcB4.free 0
  have k1 := hcB4.free 1
  have k2 := hcB4.free 2
  have k3 := hcB4.free 3
  simp at m0 m1 m2 m3 b0 b1 b2 b3
  obtain ⟨wZ, hZ⟩ : ∃ wZ, wZ = ((((w4.setCell ⟨g1 + 1, 0, none⟩ (.string k)).setCell ⟨g1 + 1, 1, none⟩ (.slice av n cv)).setCell ⟨g1 + 1, 2, none⟩ (.int .u64 (ver : Nat))).setCell ⟨g1 + 1, 3, none⟩ (.int .u64 (own : Nat))) := ⟨_, rfl⟩
  have hwz : Whole wZ (g1 + 1) 58 #[.string k, .slice av n cv, .int .u64 (ver : Nat), .int .u64 (own : Nat)] := by
    have := (((hcB4.put 0 (.string k)).put 1 (.slice av n cv)).put 2 (.int .u64 (ver : Nat))).put 3 (.int .u64 (own : Nat))
    rw [hZ]; simpa using this
  have hg2w2 : (g1 + 1) < w2.heap.size := HCB2.out.lt
  have hf43 : Frm [g1] w3 w4 := by rw [hw4]; exact (Frm.refl _ _).setCell (.inl (by simp)) _
  have hf4Z : Frm [(g1 + 1)] w4 wZ := by
    rw [hZ]; exact ((((Frm.refl _ _).setCell (.inl (by simp)) _).setCell (.inl (by simp)) _).setCell (.inl (by simp)) _).setCell (.inl (by simp)) _
  have hf3Z : Frm [g1, (g1 + 1)] w3 wZ := hf43.trans hf4Z (by simp) (by simp)
  have hEND : AloneEnd w k v n ver own (.returned (.agg #[.string k, .slice av n cv, .int .u64 (ver : Nat), .int .u64 (own : Nat)])) wZ := by
    refine ⟨av, cv, rfl, hf3Z.bytes hbv.1 (fun q hq hm => ?_), hbv.2, fun q hq => Nat.le_trans HF2.out.size (hlv q hq), (HF2.out.trans hf3 (U := []) (by simp) (by simp)).trans hf3Z (by simp) (fun x hx => ?_)⟩
    · have := hlv q hq; simp at hm; omega
    · right
      simp at hx; omega
  have HEND := Lib.hid hEND
  have HZ := Lib.hid hZ
  have HG := Lib.hid HG2.out
  have y0 := hwz.cell 0
  have y1 := hwz.cell 1
  have y2 := hwz.cell 2
  have y3 := hwz.cell 3
  simp at y0 y1 y2 y3
  rw [hw4] at m0 m1 m2 m3 b0 b1 b2 b3 k0 k1 k2 k3
  clear hcA3 hcB3 hcA4 hcB4 hwz hf43 hf4Z hf3Z hEND hZ hbv hlv hown hf3 hw4
  go_wp2
  rw [← HW4.out, ← HZ.out]
  refine bodyPost_ret (v := .agg #[.string k, .slice av n cv, .int .u64 (ver : Nat), .int .u64 (own : Nat)]) ?_ rfl ?_
  · simp [results, Tryz.results77, go_sem, y0, y1, y2, y3]
  · exact HEND.out
end Go.Proofs.YtcbpppdmkhpkkaaGreat
/- Pieces of the tree's row of pointers; a new row stored in the tree. -/
namespace Go.Proofs.YtcbpppdmkhpkkaaGreat
open Go.RowKit
set_option maxRecDepth 100000

theorem ValsAt.take {w : World} {a : Option Addr} {us : List Value} (h : ValsAt w a us) (n : Nat) : ValsAt w a (us.take n) := by
  rcases h with h | ⟨b, off, rfl, hc⟩
  · exact .inl (by rw [h]; simp)
  · refine .inr ⟨b, off, rfl, fun i u hu => hc i u ?_⟩
    rw [List.getElem?_take] at hu
    split at hu
    · exact hu
    · cases hu
/-- The address of what is left of a slice of one-cell elements. -/
def cut1 (a : Option Addr) (cap lo : Nat) : Option Addr := if cap = lo then a else a.map (·.add lo)
theorem ValsAt.drop {w : World} {a : Option Addr} {us : List Value} {cap : Nat} (h : ValsAt w a us) (hc : us.length ≤ cap) (lo : Nat) : ValsAt w (cut1 a cap lo) (us.drop lo) := by
  unfold cut1
  by_cases hlo : cap = lo
  · rw [if_pos hlo, List.drop_eq_nil_of_le (by omega)]; exact .inl rfl
  · rw [if_neg hlo]
    rcases h with h' | ⟨b, off, rfl, hcc⟩
    · exact .inl (by rw [h']; simp)
    · refine .inr ⟨b, off + lo, by simp [addr_add], fun i u hu => ?_⟩
      rw [List.getElem?_drop] at hu
      rw [Nat.add_assoc]
      exact hcc _ _ hu
theorem cut1_none {a : Option Addr} {cap lo : Nat} (h : a = none → cap = 0) (hc : cut1 a cap lo = none) : cap - lo = 0 := by
  unfold cut1 at hc
  by_cases hlo : cap = lo
  · omega
  · rw [if_neg hlo] at hc
    have := h (by simpa using hc)
    omega
section
variable {P : Program} {t e : TypeId}
theorem run_cut1 (ht : P.underlying t = some (.slice e)) (hz : ∀ w, (Go.sizeOf e).run P w = .ok 1 w) (w : World) (a : Option Addr) (n cap lo : Nat) (l : Int) (hl : l = (lo : Nat)) (h1 : lo ≤ n) :
    (Instr.slice t (.slice a n cap) (some (.int .i64 l)) none none).run P w = .ok (.slice (cut1 a cap lo) (n - lo) (cap - lo)) w := by
  subst hl
  have ht' : P.underlying t = some (.slice (P.elem t)) := by simp [Program.elem, ht]
  have he : P.elem t = e := by simp [Program.elem, ht]
  rw [run_slice_l w t _ _ _ ht' .i64 _ (by omega) (by omega), he, hz]
  simp [Result.andThen, sliced, cut1]
end
theorem sizeP : ∀ w, (Go.sizeOf 153).run Tryz.prog w = .ok 1 w := fun _ => by kernel_rfl
theorem ptr_one (qs : List Nat) : ∀ u ∈ qs.map ptr, u.oneCell' = true := by
  intro u hu
  obtain ⟨q, _, rfl⟩ := List.mem_map.1 hu
  rfl

/-- What a change of the tree leaves. -/
def PtTo (w w' : World) (B p : Nat) (F : List Nat) (L' : List Nd) : Prop := ∃ a' c' X qs, Pt w' B p F a' c' X qs ∧ nds X = L' ∧ Frm [p] w w'
/-- A new row of nodes is stored in the tree. -/
theorem Pt.store {w w1 : World} {B p : Nat} {F : List Nat} {a a' : Option Addr} {cap c' : Nat} {L L' : List Nx} {qs qs' : List Nat} (h : Pt w B p F a cap L qs) (hF : ∀ x ∈ F, x < w.heap.size) (hf : Frm [] w w1)
    (hr : OwnP w1 w.heap.size a' c' (qs'.map ptr)) (hlen : qs'.length = L'.length) (hn : ∀ i, i < L'.length → Whole w1 (qs'.getD i 0) 58 (L'.getD i default).cells.toArray)
    (hok : NOk w1 (p :: F) L') (hq : ∀ q ∈ qs', q ∉ p :: F) (hl : L'.length ≤ 256) :
    PtTo w (w1.setCell ⟨p, 0, none⟩ (.slice a' L'.length c')) B p F (nds L') := by
  have hpl := h.tree.lt
  have ht := (hf.whole h.tree (by simp)).put 0 (.slice a' L'.length c')
  have hs : Frm [p] w1 (w1.setCell ⟨p, 0, none⟩ (.slice a' L'.length c')) := (Frm.refl _ _).setCell (.inl (by simp)) _
  have hc := hr.caps
  rw [List.length_map, hlen] at hc
  have hnew : ∀ x, a' = some x → x.block ∉ p :: F := by
    intro x hx hm
    have h1 := (hr.lt x hx).1
    rcases List.mem_cons.1 hm with h2 | h2
    · omega
    · have := hF _ h2; omega
  refine ⟨a', c', L', qs', ⟨by simpa using ht, hlen, (hr.vals).keep hs (fun _ x hx hm => ?_), fun i hi => hs.whole (hn i hi) (fun hm => ?_), hok.keep hs (fun x hx => .inl (by simp at hx; simp [hx])) (fun x hx => .inl hx), h.hp, h.out, fun _ x hx => hnew x hx, hq, hl, hc.1, hc.2.1, hc.2.2⟩, rfl, (hf.weak (by simp)).trans hs (fun x hx => hx) (fun x hx => .inl hx)⟩
  · simp at hm; exact hnew x hx (by simp [hm])
  · simp at hm; exact hq _ (getD_mem (by rw [hlen]; exact hi)) (by simp [hm])
/-- Nodes of the tree, and what was laid beside, in a later world. -/
theorem Pt.later {w w1 : World} {B p : Nat} {F : List Nat} {a : Option Addr} {cap : Nat} {L : List Nx} {qs : List Nat} (h : Pt w B p F a cap L qs) (hf : Frm [] w w1) :
    (∀ i, i < L.length → Whole w1 (qs.getD i 0) 58 (L.getD i default).cells.toArray) ∧ NOk w1 (p :: F) L :=
  ⟨fun i hi => hf.whole (h.nodes i hi) (by simp), h.ok.keep hf (by simp) (fun x hx => .inl hx)⟩
/-- The nodes' facts, list by list. -/
def NdsAt (w : World) (L : List Nx) (qs : List Nat) : Prop := qs.length = L.length ∧ ∀ i, i < L.length → Whole w (qs.getD i 0) 58 (L.getD i default).cells.toArray
theorem NdsAt.append {w : World} {L M : List Nx} {qs rs : List Nat} (h : NdsAt w L qs) (k : NdsAt w M rs) : NdsAt w (L ++ M) (qs ++ rs) := by
  refine ⟨by simp [h.1, k.1], fun i hi => ?_⟩
  rw [List.length_append] at hi
  by_cases hl : i < L.length
  · have e1 : (L ++ M).getD i default = L.getD i default := by simp [List.getD, List.getElem?_append, hl]
    have e2 : (qs ++ rs).getD i 0 = qs.getD i 0 := by simp [List.getD, List.getElem?_append, h.1, hl]
    rw [e1, e2]; exact h.2 i hl
  · have e1 : (L ++ M).getD i default = M.getD (i - L.length) default := by simp [List.getD, List.getElem?_append, hl]
    have e2 : (qs ++ rs).getD i 0 = rs.getD (i - L.length) 0 := by simp [List.getD, List.getElem?_append, h.1, hl]
    rw [e1, e2]; exact k.2 _ (by omega)
theorem NdsAt.take {w : World} {L : List Nx} {qs : List Nat} (h : NdsAt w L qs) (n : Nat) : NdsAt w (L.take n) (qs.take n) := by
  refine ⟨by simp [h.1], fun i hi => ?_⟩
  rw [List.length_take] at hi
  have e1 : (L.take n).getD i default = L.getD i default := by simp [List.getD, show i < n by omega]
  have e2 : (qs.take n).getD i 0 = qs.getD i 0 := by simp [List.getD, show i < n by omega]
  rw [e1, e2]; exact h.2 i (by omega)
theorem NdsAt.drop {w : World} {L : List Nx} {qs : List Nat} (h : NdsAt w L qs) (n : Nat) : NdsAt w (L.drop n) (qs.drop n) := by
  refine ⟨by simp [h.1], fun i hi => ?_⟩
  rw [List.length_drop] at hi
  have e1 : (L.drop n).getD i default = L.getD (n + i) default := by simp [List.getD, List.getElem?_drop]
  have e2 : (qs.drop n).getD i 0 = qs.getD (n + i) 0 := by simp [List.getD, List.getElem?_drop]
  rw [e1, e2]; exact h.2 _ (by omega)
theorem NdsAt.one {w : World} {x : Nx} {q : Nat} (h : Whole w q 58 x.cells.toArray) : NdsAt w [x] [q] := by
  refine ⟨rfl, fun i hi => ?_⟩
  have : i = 0 := by simpa using hi
  subst this; exact h
theorem NdsAt.keep {w w' : World} {L : List Nx} {qs : List Nat} (h : NdsAt w L qs) (hf : Frm [] w w') : NdsAt w' L qs := ⟨h.1, fun i hi => hf.whole (h.2 i hi) (by simp)⟩
theorem Pt.nat {w : World} {B p : Nat} {F : List Nat} {a : Option Addr} {cap : Nat} {L : List Nx} {qs : List Nat} (h : Pt w B p F a cap L qs) : NdsAt w L qs := ⟨h.len, h.nodes⟩
end Go.Proofs.YtcbpppdmkhpkkaaGreat
/- Contracts of slices.BinarySearchFunc over the tree's nodes, of find, of unwanted. -/
namespace Go.Proofs.YtcbpppdmkhpkkaaGreat
open Go.RowKit
set_option maxRecDepth 100000

theorem nds_at1 {L : List Nx} {i : Nat} : ((nds L).getD i default).k = (L.getD i default).t.k := by rw [nds_getD]

set_option maxRecDepth 100000 in
set_option maxHeartbeats 2000000 in
theorem bsearch_any {w : World} {B p : Nat} {F : List Nat} {a : Option Addr} {cap : Nat} {L : List Nx} {qs : List Nat} (s : ByteArray) (h : Pt w B p F a cap L qs) (hs : Srt (nds L)) (n : Nat) (hn : n = L.length) :
    Calls Tryz.prog 110 #[.slice a n cap, .string s, .func (.func 111) #[] #[]] w
      fun e w' => e = .returned (.tuple #[.int .i64 (ixN (nds L) s : Nat), .bool (isN (nds L) s)]) ∧ w = w' := by
  have hn256 : n ≤ 256 := by rw [hn]; exact h.few
  have HH := Lib.hid h; clear h
  have HS := Lib.hid hs; clear hs
  have HN := Lib.hid hn; clear hn
  obtain ⟨I, hI⟩ : ∃ I, I = ixN (nds L) s := ⟨_, rfl⟩
  obtain ⟨bb, hbb⟩ : ∃ bb, bb = isN (nds L) s := ⟨_, rfl⟩
  rw [← hI, ← hbb]
  have HI := Lib.hid hI; clear hI
  have HBB := Lib.hid hbb; clear hbb
  go_enter Tryz.func110, Tryz.ntmps110
  go_wp2
  go_loop [9, 10] (fun s5 s6 => ∃ lo hi : Nat, s5 = .int .i64 lo ∧ s6 = .int .i64 hi ∧ lo ≤ hi ∧ hi ≤ n ∧ Hid (∀ t, t < lo → kl ((nds L).getD t default).k s = true) ∧ Hid (∀ t, hi ≤ t → t < n → kl ((nds L).getD t default).k s = false)) (fun s5 s6 => ((intOf s6).toNat - (intOf s5).toNat))
  case atStart => exact ⟨0, n, rfl, rfl, Nat.zero_le _, Nat.le_refl _, Lib.hid (fun t ht => absurd ht (Nat.not_lt_zero _)), Lib.hid (fun t h1 h2 => by omega)⟩
  case round =>
    obtain ⟨lo, hi, rfl, rfl, hlh, hin, HA, HB⟩ := hrel
    by_cases hlt : lo < hi
    · obtain ⟨m, hm⟩ : ∃ m, m = (lo + hi) / 2 := ⟨_, rfl⟩
      have hm1 : lo ≤ m := by omega
      have hm2 : m < hi := by omega
      have hmi : ((lo : Int) + (hi : Int)) / 2 = (m : Int) := by omega
      obtain ⟨b, off, q, rfl, p0, hq, p1, _⟩ := HH.out.at (i := m) (by have := HN.out; omega)
      have hk := nds_at1 (L := L) (i := m)
      generalize (L.getD m default).t.k = K at p1 hk
      have HK := Lib.hid hk; clear hk hq
      have hC := Lib.hid (cmp_any q K s w p1)
      have hc2 : decide (Lib.compareBytes K.data.toList s.data.toList < 0) = kl K s := by rw [cmp_lt, kl_data]
      obtain ⟨c, hc⟩ : ∃ c, c = Lib.compareBytes K.data.toList s.data.toList := ⟨_, rfl⟩
      rw [← hc] at hC hc2
      clear hc
      cases hkl : kl K s <;> rw [hkl] at hc2
      · have HKL := Lib.hid hkl
        clear hkl hm
        go_wp2_with ((with_reducible refine hC.out.mono ?_); rintro e w' ⟨rfl, rfl⟩)
        go_round
        case rel => exact ⟨lo, m, rfl, rfl, by omega, by omega, HA, Lib.hid (fun t h1 h2 => by
            rcases Nat.lt_or_ge m t with h3 | h3
            · have := HS.out.at h3 (by rw [nds_len', ← HN.out]; exact h2)
              rw [HK.out] at this
              exact kl_le HKL.out this
            · have : t = m := by omega
              subst this; rw [HK.out]; exact HKL.out)⟩
        case measure => simp [intOf]; omega
      · have HKL := Lib.hid hkl
        clear hkl hm
        go_wp2_with ((with_reducible refine hC.out.mono ?_); rintro e w' ⟨rfl, rfl⟩)
        go_round
        case rel => exact ⟨m + 1, hi, by go_num, rfl, by omega, hin, Lib.hid (fun t h1 => by
            rcases Nat.lt_or_ge t m with h3 | h3
            · have := HS.out.at h3 (by rw [nds_len', ← HN.out]; omega)
              rw [HK.out] at this
              exact kl_trans this HKL.out
            · have : t = m := by omega
              subst this; rw [HK.out]; exact HKL.out), HB⟩
        case measure => simp [intOf]; omega
    · obtain rfl : hi = lo := by omega
      have hix : ixN (nds L) s = hi := ixN_of (by rw [nds_len', ← HN.out]; exact hin) HA.out (by rw [nds_len', ← HN.out]; exact HB.out)
      by_cases hlt2 : hi < n
      · obtain ⟨b, off, q, rfl, p0, hq, p1, _⟩ := HH.out.at (i := hi) (by have := HN.out; omega)
        have hk := nds_at1 (L := L) (i := hi)
        have his : isN (nds L) s = decide ((L.getD hi default).t.k = s) := by
          unfold isN
          rw [hix, hk, nds_len', ← HN.out, decide_eq_true hlt2, Bool.true_and]
        generalize (L.getD hi default).t.k = K at p1 hk his
        have hC := Lib.hid (cmp_any q K s w p1)
        have hc2 : (Lib.compareBytes K.data.toList s.data.toList == 0) = isN (nds L) s := by rw [cmp_eq0, his, ← txt_eq, Lib.toList_data, Lib.toList_data]
        obtain ⟨c, hc⟩ : ∃ c, c = Lib.compareBytes K.data.toList s.data.toList := ⟨_, rfl⟩
        rw [← hc] at hC hc2
        rw [← HBB.out] at hc2
        have hlt3 : (hi : Int) < (n : Int) := by omega
        obtain rfl : I = hi := HI.out.trans hix
        clear hc hk his hix hq HA HB
        go_wp2_with ((with_reducible refine hC.out.mono ?_); rintro e w' ⟨rfl, rfl⟩)
        go_ret2
        exact ⟨rfl, rfl⟩
      · have his : isN (nds L) s = false := by
          unfold isN
          rw [hix, nds_len', ← HN.out, decide_eq_false hlt2, Bool.false_and]
        obtain rfl : I = hi := HI.out.trans hix
        obtain rfl : bb = false := HBB.out.trans his
        clear hix HA HB his
        go_wp2
        go_ret2
        exact ⟨rfl, rfl⟩

set_option maxRecDepth 100000 in
set_option maxHeartbeats 1000000 in
theorem find_any {w : World} {B p : Nat} {F : List Nat} {a : Option Addr} {cap : Nat} {L : List Nx} {qs : List Nat} (s : ByteArray) (h : Pt w B p F a cap L qs) (hs : Srt (nds L)) :
    Calls Tryz.prog 75 #[.pointer (some ⟨p, 0, none⟩), .string s] w fun e w' => e = .returned (.tuple #[.int .i64 (ixN (nds L) s : Nat), .bool (isN (nds L) s)]) ∧ w = w' := by
  have c0 := h.tree.cell 0
  simp at c0
  obtain ⟨n, hn⟩ : ∃ n, n = L.length := ⟨_, rfl⟩
  rw [← hn] at c0
  have hB := Lib.hid (bsearch_any s h hs n hn)
  clear h hs hn
  go_enter Tryz.func75, Tryz.ntmps75
  go_wp2_with ((with_reducible refine hB.out.mono ?_); rintro e w' ⟨rfl, rfl⟩)
  go_ret2
  exact ⟨rfl, rfl⟩

/-- Which error Put answers where the lengths are right (0: none). -/
def unwC (L : List Nd) (s : ByteArray) (want : Nat) : Nat :=
  if isN L s = true then (if want = 0 then 12 else if (L.getD (ixN L s) default).ver ≠ want then 13 else 0) else if want ≠ 0 then 11 else if 256 ≤ L.length then 14 else 0

set_option maxRecDepth 100000 in
set_option maxHeartbeats 1000000 in
theorem unwanted_any {w : World} {B p : Nat} {F : List Nat} {a : Option Addr} {cap : Nat} {L : List Nx} {qs : List Nat} (s : ByteArray) (want : Nat) (h : Pt w B p F a cap L qs) :
    Calls Tryz.prog 129 #[.pointer (some ⟨p, 0, none⟩), .int .i64 (ixN (nds L) s : Nat), .bool (isN (nds L) s), .int .u64 (want : Nat)] w fun e w' => e = .returned (.int .i64 (unwC (nds L) s want : Nat)) ∧ w = w' := by
  have c0 := h.tree.cell 0
  simp at c0
  have hfew := h.few
  unfold unwC
  cases his : isN (nds L) s
  · rw [if_neg (by simp), nds_len']
    generalize ixN (nds L) s = i
    obtain ⟨n, hn⟩ : ∃ n, n = L.length := ⟨_, rfl⟩
    rw [← hn] at c0 hfew ⊢
    clear h his hn
    by_cases h1 : want ≠ 0
    · rw [if_pos h1]
      have h2 : ((want : Int) != 0) = true := by rw [bne_iff_ne]; omega
      clear h1
      go_enter Tryz.func129, Tryz.ntmps129
      go_wp2
      go_ret
      exact ⟨rfl, rfl⟩
    · rw [if_neg h1]
      obtain rfl : want = 0 := by omega
      by_cases h3 : 256 ≤ n
      · rw [if_pos h3]
        go_enter Tryz.func129, Tryz.ntmps129
        go_wp2
        go_ret
        exact ⟨rfl, rfl⟩
      · rw [if_neg h3]
        go_enter Tryz.func129, Tryz.ntmps129
        go_wp2
        go_ret
        exact ⟨rfl, rfl⟩
  · rw [if_pos rfl]
    have hlt : ixN (nds L) s < L.length := by
      obtain ⟨_, _, _, _, h4⟩ := isN_split his
      rwa [nds_len'] at h4
    obtain ⟨b, off, q, rfl, p0, hq, p1, p2, p3, p4, _⟩ := h.at hlt
    have hv : ((nds L).getD (ixN (nds L) s) default).ver = (L.getD (ixN (nds L) s) default).t.ver := by rw [nds_getD]
    rw [hv]
    generalize (L.getD (ixN (nds L) s) default).t.ver = ver at p3
    generalize ixN (nds L) s = i at p0 hlt
    obtain ⟨n, hn⟩ : ∃ n, n = L.length := ⟨_, rfl⟩
    rw [← hn] at c0 hfew hlt
    clear h his hn hq p1 p2 p4 hv
    by_cases h1 : want = 0
    · rw [if_pos h1]
      subst h1
      go_enter Tryz.func129, Tryz.ntmps129
      go_wp2
      go_ret
      exact ⟨rfl, rfl⟩
    · rw [if_neg h1]
      have h2 : ((want : Int) == 0) = false := by rw [beq_eq_false_iff_ne]; omega
      by_cases h3 : ver ≠ want
      · rw [if_pos h3]
        have h4 : ((ver : Int) != (want : Int)) = true := by rw [bne_iff_ne]; omega
        clear h1 h3
        go_enter Tryz.func129, Tryz.ntmps129
        go_wp2
        go_ret
        exact ⟨rfl, rfl⟩
      · rw [if_neg h3]
        obtain rfl : ver = want := by omega
        clear h1 h3
        go_enter Tryz.func129, Tryz.ntmps129
        go_wp2
        go_ret
        exact ⟨rfl, rfl⟩
end Go.Proofs.YtcbpppdmkhpkkaaGreat
/- Contract of the program's Put. -/
namespace Go.Proofs.YtcbpppdmkhpkkaaGreat
open Go.RowKit
set_option maxRecDepth 100000

def PtEnd (w : World) (B p : Nat) (F : List Nat) (L' : List Nd) (v : Value) (e : Ending) (w' : World) : Prop := e = .returned v ∧ PtTo w w' B p F L'

theorem OwnP.low {w : World} {base b2 : Nat} {a : Option Addr} {cap : Nat} {l : List Value} (h : OwnP w base a cap l) (hb : b2 ≤ base) : OwnP w b2 a cap l := by
  refine ⟨h.1, ?_⟩
  rcases h.2 with h2 | ⟨g, cp, cur, hv, hg, r⟩
  · exact .inl h2
  · exact .inr ⟨g, cp, cur, hv, by omega, r⟩
/-- A node put among those of the tree. -/
theorem put_done {w w9 : World} {B p : Nat} {F : List Nat} {a a9 : Option Addr} {cap c9 : Nat} {L : List Nx} {qs : List Nat} (ix up : Nat) (x : Nx) (q : Nat) (h : Pt w B p F a cap L qs) (hF : ∀ x ∈ F, x < w.heap.size) (hf : Frm [] w w9)
    (hx : Whole w9 q 58 x.cells.toArray) (hxo : NxOk w9 (p :: F) x) (hq : w.heap.size ≤ q) (ho : OwnP w9 w.heap.size a9 c9 ((qs.take ix ++ q :: qs.drop up).map ptr)) (m : Nat) (hm : (qs.take ix ++ q :: qs.drop up).length = m) (hm2 : m ≤ 256) :
    PtTo w (w9.setCell ⟨p, 0, none⟩ (.slice a9 m c9)) B p F ((nds L).take ix ++ x.t :: (nds L).drop up) := by
  have hnl := ((h.nat.keep hf).take ix).append ((NdsAt.one hx).append ((h.nat.keep hf).drop up))
  have hokL := h.ok.keep (F' := p :: F) hf (by simp) (fun x hx => .inl hx)
  have hml : (L.take ix ++ ([x] ++ L.drop up)).length = m := by rw [← hnl.1, ← hm]; rfl
  have hqF : q ∉ p :: F := by
    intro hm
    rcases List.mem_cons.1 hm with h1 | h1
    · have := h.tree.lt; omega
    · have := hF _ h1; omega
  have hst := Pt.store (L' := L.take ix ++ ([x] ++ L.drop up)) (qs' := qs.take ix ++ ([q] ++ qs.drop up)) h hF hf ho hnl.1 hnl.2 (fun y hy => by
    rcases List.mem_append.1 hy with h1 | h1
    · exact hokL y (List.mem_of_mem_take h1)
    · rcases List.mem_append.1 h1 with h2 | h2
      · simp at h2; subst h2; exact hxo
      · exact hokL y (List.mem_of_mem_drop h2)) (fun y hy => by
    rcases List.mem_append.1 hy with h1 | h1
    · exact h.qout y (List.mem_of_mem_take h1)
    · rcases List.mem_append.1 h1 with h2 | h2
      · simp at h2; subst h2; exact hqF
      · exact h.qout y (List.mem_of_mem_drop h2)) (by rw [hml]; exact hm2)
  rw [hml] at hst
  have hnd : nds (L.take ix ++ ([x] ++ L.drop up)) = (nds L).take ix ++ x.t :: (nds L).drop up := by simp [nds, List.map_take, List.map_drop]
  rw [hnd] at hst
  exact hst

set_option maxRecDepth 100000 in
set_option maxHeartbeats 1000000 in
theorem put_len {w : World} {B p : Nat} {F : List Nat} {a : Option Addr} {cap : Nat} {L : List Nx} {qs : List Nat} (s : ByteArray) (va : Option Addr) (vn vc : Nat) (want own : Nat) (_h : Pt w B p F a cap L qs)
    (hs : s.size ≤ 9223372036854775807) (hv : vn ≤ 9223372036854775807) (hc : lenC s.size vn ≠ 0) :
    Calls Tryz.prog 94 #[.pointer (some ⟨p, 0, none⟩), .string s, .slice va vn vc, .int .u64 (want : Nat), .int .u64 (own : Nat)] w fun e w' => e = .returned (.tuple #[.int .u64 0, .int .i64 (lenC s.size vn : Nat)]) ∧ w = w' := by
  have HL := Lib.hid (lengths_any s va vn vc w hs hv)
  obtain ⟨c, hcc⟩ : ∃ c, c = lenC s.size vn := ⟨_, rfl⟩
  rw [← hcc] at HL hc ⊢
  have hne : ((c : Int) != 0) = true := by rw [bne_iff_ne]; omega
  clear hcc hc hs hv
  go_enter Tryz.func94, Tryz.ntmps94
  go_wp2_with fail
  (with_reducible refine HL.out.mono ?_)
  rintro e w' ⟨rfl, rfl⟩
  go_wp2
  go_ret2
  exact ⟨rfl, rfl⟩

set_option maxRecDepth 100000 in
set_option maxHeartbeats 1000000 in
theorem put_unw {w : World} {B p : Nat} {F : List Nat} {a : Option Addr} {cap : Nat} {L : List Nx} {qs : List Nat} (s : ByteArray) (va : Option Addr) (vn vc : Nat) (want own : Nat) (h : Pt w B p F a cap L qs) (hS : Srt (nds L))
    (hs : s.size ≤ 9223372036854775807) (hv : vn ≤ 9223372036854775807) (hl : lenC s.size vn = 0) (hc : unwC (nds L) s want ≠ 0) :
    Calls Tryz.prog 94 #[.pointer (some ⟨p, 0, none⟩), .string s, .slice va vn vc, .int .u64 (want : Nat), .int .u64 (own : Nat)] w fun e w' => e = .returned (.tuple #[.int .u64 0, .int .i64 (unwC (nds L) s want : Nat)]) ∧ w = w' := by
  have HL := Lib.hid (lengths_any s va vn vc w hs hv)
  rw [hl] at HL
  have HFI := Lib.hid (find_any s h hS)
  have HUN := Lib.hid (unwanted_any s want h)
  obtain ⟨c, hcc⟩ : ∃ c, c = unwC (nds L) s want := ⟨_, rfl⟩
  rw [← hcc] at HUN hc ⊢
  generalize ixN (nds L) s = ix at HFI HUN
  generalize isN (nds L) s = is at HFI HUN
  have hne : ((c : Int) != 0) = true := by rw [bne_iff_ne]; omega
  clear hcc hc hs hv h hl hS
  go_enter Tryz.func94, Tryz.ntmps94
  go_wp2_with fail
  (with_reducible refine HL.out.mono ?_)
  rintro e w' ⟨rfl, rfl⟩
  go_wp2_with fail
  (with_reducible refine HFI.out.mono ?_)
  rintro e w' ⟨rfl, rfl⟩
  go_wp2_with fail
  (with_reducible refine HUN.out.mono ?_)
  rintro e w' ⟨rfl, rfl⟩
  go_wp2
  go_ret2
  exact ⟨rfl, rfl⟩

end Go.Proofs.YtcbpppdmkhpkkaaGreat
/- Contract of the program's Delete. -/
namespace Go.Proofs.YtcbpppdmkhpkkaaGreat
open Go.RowKit
set_option maxRecDepth 100000

/-- Which error Delete answers (0: none). -/
def delN (L : List Nd) (s : ByteArray) (want : Nat) : Nat := if isN L s = true then (if (L.getD (ixN L s) default).ver ≠ want then 13 else 0) else 11

set_option maxRecDepth 100000 in
set_option maxHeartbeats 1000000 in
theorem del_bad {w : World} {B p : Nat} {F : List Nat} {a : Option Addr} {cap : Nat} {L : List Nx} {qs : List Nat} (s : ByteArray) (want : Nat) (h : Pt w B p F a cap L qs) (hS : Srt (nds L)) (hc : delN (nds L) s want ≠ 0) :
    Calls Tryz.prog 61 #[.pointer (some ⟨p, 0, none⟩), .string s, .int .u64 (want : Nat)] w fun e w' => e = .returned (.int .i64 (delN (nds L) s want : Nat)) ∧ w = w' := by
  have HFI := Lib.hid (find_any s h hS)
  have c0 := h.tree.cell 0
  simp at c0
  have hfew := h.few
  obtain ⟨c, hcc⟩ : ∃ c, c = delN (nds L) s want := ⟨_, rfl⟩
  rw [← hcc] at hc ⊢
  unfold delN at hcc
  cases his : isN (nds L) s
  · rw [his, if_neg (by simp)] at hcc
    subst hcc
    rw [his] at HFI
    generalize ixN (nds L) s = ix at HFI
    clear h hc hS c0 his
    go_enter Tryz.func61, Tryz.ntmps61
    go_wp2_with fail
    (with_reducible refine HFI.out.mono ?_)
    rintro e w' ⟨rfl, rfl⟩
    go_wp2
    go_ret
    exact ⟨rfl, rfl⟩
  · rw [his, if_pos rfl] at hcc
    rw [his] at HFI
    have hlt : ixN (nds L) s < L.length := by
      obtain ⟨_, _, _, _, h4⟩ := isN_split his
      rwa [nds_len'] at h4
    obtain ⟨b, off, q, rfl, p0, hq, p1, p2, p3, p4, _⟩ := h.at hlt
    have hv : ((nds L).getD (ixN (nds L) s) default).ver = (L.getD (ixN (nds L) s) default).t.ver := by rw [nds_getD]
    rw [hv] at hcc
    generalize (L.getD (ixN (nds L) s) default).t.ver = ver at p3 hcc
    generalize ixN (nds L) s = i at p0 hlt HFI
    obtain ⟨n, hn⟩ : ∃ n, n = L.length := ⟨_, rfl⟩
    rw [← hn] at c0 hfew hlt
    by_cases h3 : ver ≠ want
    · rw [if_pos h3] at hcc
      subst hcc
      have h4 : ((ver : Int) != (want : Int)) = true := by rw [bne_iff_ne]; omega
      clear h his hn hq p1 p2 p4 hv h3 hc hS
      go_enter Tryz.func61, Tryz.ntmps61
      go_wp2_with fail
      (with_reducible refine HFI.out.mono ?_)
      rintro e w' ⟨rfl, rfl⟩
      go_wp2
      go_ret
      exact ⟨rfl, rfl⟩
    · rw [if_neg h3] at hcc
      exact absurd hcc hc

/-- Nodes left out of those of the tree. -/
theorem less_done {w w9 : World} {B p : Nat} {F : List Nat} {a a9 : Option Addr} {cap c9 : Nat} {L L' : List Nx} {qs qs' : List Nat} (h : Pt w B p F a cap L qs) (hF : ∀ x ∈ F, x < w.heap.size) (hf : Frm [] w w9)
    (hn : NdsAt w L' qs') (hL : ∀ x ∈ L', x ∈ L) (hq : ∀ x ∈ qs', x ∈ qs) (ho : OwnP w9 w.heap.size a9 c9 (qs'.map ptr)) (m : Nat) (hm : qs'.length = m) (hm2 : m ≤ 256) :
    PtTo w (w9.setCell ⟨p, 0, none⟩ (.slice a9 m c9)) B p F (nds L') := by
  have hnl := hn.keep hf
  have hokL := h.ok.keep (F' := p :: F) hf (by simp) (fun x hx => .inl hx)
  have hml : L'.length = m := by rw [← hnl.1, ← hm]
  have hst := Pt.store h hF hf ho hnl.1 hnl.2 (fun y hy => hokL y (hL y hy)) (fun y hy => h.qout y (hq y hy)) (by rw [hml]; exact hm2)
  rw [hml] at hst
  exact hst

set_option maxRecDepth 100000 in
set_option maxHeartbeats 4000000 in
theorem del_ok {w : World} {B p : Nat} {F : List Nat} {a : Option Addr} {cap : Nat} {L : List Nx} {qs : List Nat} (s : ByteArray) (want ix : Nat) (h : Pt w B p F a cap L qs) (hS : Srt (nds L)) (hF : ∀ x ∈ F, x < w.heap.size)
    (hn0 : isN (nds L) s = true) (hver : ((nds L).getD (ixN (nds L) s) default).ver = want) (hix : ix = ixN (nds L) s) :
    Calls Tryz.prog 61 #[.pointer (some ⟨p, 0, none⟩), .string s, .int .u64 (want : Nat)] w (PtEnd w B p F ((nds L).take ix ++ (nds L).drop (ix + 1)) (.int .i64 0)) := by
  have HFI := Lib.hid (find_any s h hS)
  rw [hn0, ← hix] at HFI
  have hixl : ix < L.length := by
    obtain ⟨_, _, _, _, h4⟩ := isN_split hn0
    rw [nds_len', ← hix] at h4; exact h4
  obtain ⟨b, off, q0, rfl, r0, hq0, _, _, r3, r4, _⟩ := h.at hixl
  have hver4 : (L.getD ix default).t.ver = want := by rw [← nds_getD, hix]; exact hver
  rw [hver4] at r3
  have hwi : ((want : Int) != (want : Int)) = false := by simp
  have hcap : L.length ≤ cap := h.lcap
  have hmcap := h.mcap
  unfold maxLen at hmcap
  obtain ⟨n, hnn⟩ : ∃ n, n = L.length := ⟨_, rfl⟩
  have hn : n ≤ 256 := by rw [hnn]; exact h.few
  have c0 := h.tree.cell 0
  rw [← hnn] at c0
  simp at c0
  rw [← hnn] at hcap hixl
  have HH := Lib.hid h
  have HN := Lib.hid hnn
  have HFF := Lib.hid hF
  have hsi : IntKind.i64.wrap ((ix : Int) + 1) = (ix : Int) + 1 := IntWalk.i64_in _ (by omega)
  have hcut1 := fun w => run_head_h (P := Tryz.prog) Tryz.underlying150 sizeP w (some ⟨b, off, none⟩) n cap ix (by omega)
  have hcut2 := fun w => run_cut1 (P := Tryz.prog) Tryz.underlying150 sizeP w (some ⟨b, off, none⟩) n cap (ix + 1) ((ix : Int) + 1) (by omega) (by omega)
  obtain ⟨a2, ha2⟩ : ∃ a2, a2 = cut1 (some ⟨b, off, none⟩) cap (ix + 1) := ⟨_, rfl⟩
  obtain ⟨n2, hn2⟩ : ∃ n2, n2 = n - (ix + 1) := ⟨_, rfl⟩
  obtain ⟨c2, hc2⟩ : ∃ c2, c2 = cap - (ix + 1) := ⟨_, rfl⟩
  rw [← ha2, ← hn2, ← hc2] at hcut2
  have HP1 : Hid (PSlIn w ⟨some ⟨b, off, none⟩, cap, (qs.map ptr).take ix⟩) := Lib.hid ⟨h.ptrs.take ix, h.nil, by simp [h.len, ← hnn]; omega, by show cap ≤ _; omega, fun u hu => ptr_one qs u (List.mem_of_mem_take hu)⟩
  have HP2 : Hid (PSlIn w ⟨a2, c2, (qs.map ptr).drop (ix + 1)⟩) := Lib.hid ⟨by rw [ha2]; exact h.ptrs.drop (by simp [h.len, ← hnn]; omega) _, fun h0 => by rw [hc2]; exact cut1_none h.nil (by rw [← ha2]; exact h0), by simp [h.len, ← hnn]; omega, by show c2 ≤ _; omega, fun u hu => ptr_one qs u (List.mem_of_mem_drop hu)⟩
  have HL1 : Hid (((qs.map ptr).take ix).length = ix) := Lib.hid (by simp [h.len, ← hnn]; omega)
  have HL2 : Hid (((qs.map ptr).drop (ix + 1)).length = n2) := Lib.hid (by simp [h.len, ← hnn]; omega)
  have HCNT : Hid (ix + n2 ≤ 256) := Lib.hid (by omega)
  clear h hS hF hnn ha2 hc2 hn2 hn0 hver hix hver4 r4 hq0
  obtain ⟨w7, hw7⟩ : ∃ w7, w7 = (w.alloc (.cells #[.slice (some ⟨b, off, none⟩) ix cap, .slice a2 n2 c2] 150)).drew := ⟨_, rfl⟩
  have hf67 : Frm [] w w7 := by rw [hw7]; exact ((Frm.refl [] w).alloc _).drew
  have hsls : PSlsIn w7 w.heap.size [⟨some ⟨b, off, none⟩, cap, (qs.map ptr).take ix⟩, ⟨a2, c2, (qs.map ptr).drop (ix + 1)⟩] := by
    have h1 := (Whole.made w 150 #[.slice (some ⟨b, off, none⟩) ix cap, .slice a2 n2 c2]).drew
    rw [← hw7] at h1
    intro k hk
    have hk3 : k = 0 ∨ k = 1 := by simp at hk; omega
    rcases hk3 with rfl | rfl
    · exact ⟨by rw [h1.cell]; simp [List.getD]; have h2 := HL1.out; rw [List.length_take, List.length_map] at h2; omega, HP1.out.keep hf67⟩
    · exact ⟨by rw [h1.cell]; simp [List.getD]; have h2 := HL2.out; rw [List.length_drop, List.length_map] at h2; omega, HP2.out.keep hf67⟩
  have hall : pall [⟨some ⟨b, off, none⟩, cap, (qs.map ptr).take ix⟩, ⟨a2, c2, (qs.map ptr).drop (ix + 1)⟩] = (qs.take ix ++ qs.drop (ix + 1)).map ptr := by
    simp [pall, List.map_take, List.map_drop]
  have hcat := concatP_any hsls (n := 2) rfl (by omega) (by rw [hall]; simp [HH.out.len, ← HN.out]; omega)
  rw [hall] at hcat
  have hlq : ((qs.take ix ++ qs.drop (ix + 1)).map ptr).length = ix + n2 := by
    have h1 := HL1.out; have h2 := HL2.out
    simp at h1 h2 ⊢
    omega
  have HLQ := Lib.hid hlq
  have HF7 := Lib.hid hf67
  rw [hw7] at hcat
  have HCA := Lib.hid hcat
  have HW7 := Lib.hid hw7
  clear hcat hlq hall hsls hf67 hw7
  go_enter Tryz.func61, Tryz.ntmps61
  go_wp2_with fail
  (with_reducible refine HFI.out.mono ?_)
  rintro e w' ⟨rfl, rfl⟩
  go_wp2
  go_region_law (go_simp; go_at_call 96; (with_reducible refine HCA.out.mono ?_); rintro e w9 ⟨a9, c9, rfl, ho9, hf9⟩; rw [← HW7.out] at hf9 ho9; rw [HLQ.out]; have hf79 := Lib.hid (HF7.out.trans hf9 (U := []) (by simp) (by simp)); have hO9 := Lib.hid ho9; have c9p := (hf79.out.whole HH.out.tree (by simp)).cell 0; rw [← HN.out] at c9p; simp at c9p; have f9p := (hf79.out.whole HH.out.tree (by simp)).free 0; clear ho9 hf9)
  all_goals
    have hdone := less_done HH.out HFF.out hf79.out ((HH.out.nat.take ix).append (HH.out.nat.drop (ix + 1))) (fun x hx => (by
        rcases List.mem_append.1 hx with h1 | h1
        · exact List.mem_of_mem_take h1
        · exact List.mem_of_mem_drop h1)) (fun x hx => (by
        rcases List.mem_append.1 hx with h1 | h1
        · exact List.mem_of_mem_take h1
        · exact List.mem_of_mem_drop h1)) (OwnP.low hO9.out HF7.out.size) (ix + n2) (by have := HLQ.out; rwa [List.length_map] at this) HCNT.out
    have hnd : nds (L.take ix ++ L.drop (ix + 1)) = (nds L).take ix ++ (nds L).drop (ix + 1) := by simp [nds, List.map_take, List.map_drop]
    rw [hnd] at hdone
    have HST := Lib.hid hdone
    clear hdone hnd hf79 hO9
    go_wp2
    go_ret
    exact ⟨rfl, HST.out⟩
end Go.Proofs.YtcbpppdmkhpkkaaGreat
/- Contracts of slices.Clone, slices.IndexFunc, slices.DeleteFunc over nodes' pointers, of the function that Drop hands them; of Drop. -/
namespace Go.Proofs.YtcbpppdmkhpkkaaGreat
open Go.RowKit
set_option maxRecDepth 100000

set_option maxHeartbeats 1000000 in
theorem dropf_any (q g own o : Nat) (w : World) (h1 : w.cell? ⟨q, 3, none⟩ = some (.int .u64 (own : Nat))) (h2 : w.cell? ⟨g, 0, none⟩ = some (.int .u64 (o : Nat))) :
    Calls Tryz.prog 134 #[.pointer (some ⟨q, 0, none⟩), .pointer (some ⟨g, 0, none⟩)] w fun e w' => e = .returned (.bool ((own : Int) == (o : Int))) ∧ Frm [] w w' := by
  go_enter Tryz.func134, Tryz.ntmps134
  go_wp2
  go_quiet (fail)
  go_wp2
  go_ret
  exact ⟨rfl, (Frm.refl [] w).drewN _⟩

/-- A copy of the row. -/
theorem cloneP_any (a : Option Addr) (n cap : Nat) (l : List Value) (w : World) (hl : ValsAt w a l) (hn : n = l.length) (hone : ∀ u ∈ l, u.oneCell' = true) (hnil : a = none → cap = 0) (hfit : n ≤ 100000) :
    Calls Tryz.prog 133 #[.slice a n cap] w (RetP w l) := by
  have hq := fun (w : World) (a : Option Addr) (n c n' c' : Nat) => Lib.run_eql_slice_nil (P := Tryz.prog) w 150 153 a n c n' c' Tryz.underlying150
  cases a with
  | none =>
    have h0 : l = [] := by
      rcases hl with h | ⟨b, off, h, _⟩
      · exact h
      · cases h
    subst h0
    obtain rfl := hnil rfl
    subst hn
    go_enter Tryz.func133, Tryz.ntmps133
    go_wp2
    go_ret
    exact ⟨none, 0, rfl, OwnP.nil _ _, Frm.refl _ _⟩
  | some x =>
    obtain ⟨i0, hi, hz0, hz1, hz2⟩ := info_parts Tryz.info153
    have HL := Lib.hid hl; clear hl
    have HN := Lib.hid hn; clear hn
    have HI := Lib.hid hi; clear hi
    have HZ0 := Lib.hid hz0; clear hz0
    have HZ1 := Lib.hid hz1; clear hz1
    have HZ2 := Lib.hid hz2; clear hz2
    have HON := Lib.hid hone; clear hone
    clear hnil
    have hfit1 : 0 + n ≤ 1000000000 := by omega
    go_enter Tryz.func133, Tryz.ntmps133
    go_wp2_with (at_builtin; refine wpList_appV rfl (.tmp 5) (.tmp 6) 150 rfl w.heap.size 153 i0 (.pointer none) 8 Tryz.underlying150 HI.out HZ0.out rfl HZ1.out HZ2.out (by decide) _ 0 [] rfl ?own1 _ _ _ l rfl ?b1 HN.out HON.out ?nil1 hfit1 ?base1 ?_)
    case own1 => exact World.ownsRow_lit w #[] 0 (Nat.le_refl _) (by unfold maxLen; omega) rfl
    case b1 => exact HL.out.keep ((Frm.refl [] w).alloc _) (by simp)
    case nil1 => intro h; cases h
    case base1 => simp
    intro a2 cap2 w2 happ
    have hf2 : Frm [] w w2 := ((Frm.refl [] w).alloc _).grown happ.grown (fun k hk => .inr (by simp [Value.ownBlock] at hk; omega))
    have ho := happ.own
    rw [List.nil_append, Nat.zero_add] at ho
    clear happ
    go_wp2
    go_ret
    have h := HN.out
    subst h
    exact ⟨a2, cap2, rfl, ho, hf2⟩

/-- The first place where it holds. -/
def FirstAt (p : Nat → Bool) (n : Nat) (r : Int) : Prop := (r = -1 ∧ ∀ j, j < n → p j = false) ∨ ∃ k : Nat, r = (k : Nat) ∧ k < n ∧ p k = true ∧ ∀ j, j < k → p j = false

set_option maxRecDepth 100000 in
set_option maxHeartbeats 1000000 in
theorem indexP_any (a : Option Addr) (n cap : Nat) (qs : List Nat) (fv : Array Value) (p : Nat → Bool) (w : World) (S : List Nat) (hS : S = []) (hl : ValsAt w a (qs.map ptr)) (hn : n = qs.length) (hfit : n ≤ 100000)
    (hp : ∀ wr, Frm [] w wr → ∀ i, i < n → Calls Tryz.prog 134 (#[.pointer (some ⟨qs.getD i 0, 0, none⟩)] ++ fv) wr fun e w' => e = .returned (.bool (p i)) ∧ Frm [] wr w') :
    Calls Tryz.prog 153 #[.slice a n cap, .func (.func 134) #[] fv] w fun e w' => ∃ r : Int, e = .returned (.int .i64 r) ∧ FirstAt p n r ∧ Frm S w w' := by
  subst hS
  have HL := Lib.hid hl; clear hl
  have HN := Lib.hid hn; clear hn
  have HP := Lib.hid hp; clear hp
  go_enter Tryz.func153, Tryz.ntmps153
  go_wp2
  go_loopw [8] (fun u8 wr => ∃ k : Nat, k ≤ n ∧ u8 = .int .i64 (k : Nat) ∧ Hid (∀ j, j < k → p j = false) ∧ Frm [] w wr) (fun u8 _ => n - (intOf u8).toNat)
  case atStart => exact ⟨0, Nat.zero_le _, rfl, Lib.hid (fun j hj => absurd hj (Nat.not_lt_zero _)), Frm.refl _ _⟩
  case round =>
    obtain ⟨k, hk, rfl, HJ, hf⟩ := hrel
    have HF := Lib.hid hf; clear hf
    by_cases hlt : k < n
    · have hu : (qs.map ptr)[k]? = some (ptr (qs.getD k 0)) := by
        have : k < qs.length := by have := HN.out; omega
        simp [this]
      have hc := HP.out wr HF.out k hlt
      obtain ⟨q, hq⟩ : ∃ q, q = qs.getD k 0 := ⟨_, rfl⟩
      rw [← hq] at hu hc
      have HC := Lib.hid hc
      clear hc hq
      rcases HL.out with h0 | ⟨b, off, rfl, hcell⟩
      · rw [h0] at hu; simp at hu
      have c0 := (HF.out.cell (block_lt_of_cell (hcell k _ hu)) (by simp)).trans (hcell k _ hu)
      unfold ptr at c0
      have HPK : Hid (p k = p k) := Lib.hid rfl
      clear hcell hu
      cases hpk : p k
      · rw [hpk] at HC
        have HJ2 : Hid (∀ j, j < k + 1 → p j = false) := Lib.hid fun j hj => by
          rcases Nat.lt_or_ge j k with h | h
          · exact HJ.out j h
          · have : j = k := by omega
            subst this; exact hpk
        clear hpk HPK
        go_wp2_with ((with_reducible refine HC.out.mono ?_); rintro e w' ⟨rfl, hf1⟩; have HF1 := Lib.hid (HF.out.trans hf1 (U := []) (by simp) (by simp)); clear hf1)
        go_roundw
        case rel => exact ⟨k + 1, by omega, by go_num, HJ2, HF1.out⟩
        case measure => simp [intOf]; omega
      · rw [hpk] at HC
        have HK := Lib.hid hpk
        clear hpk HPK
        go_wp2_with ((with_reducible refine HC.out.mono ?_); rintro e w' ⟨rfl, hf1⟩; have HF1 := Lib.hid (HF.out.trans hf1 (U := []) (by simp) (by simp)); clear hf1)
        go_ret
        exact ⟨_, rfl, .inr ⟨k, rfl, hlt, HK.out, HJ.out⟩, HF1.out⟩
    · obtain rfl : k = n := by omega
      go_wp2
      go_ret
      exact ⟨_, rfl, .inl ⟨rfl, HJ.out⟩, HF.out⟩

/-- The head of a row of the call's own; what is stored behind it. -/
theorem OwnP.head {w : World} {base g cap n : Nat} {R : List Value} (h : w.ownsRow base 153 1 (.slice (some ⟨g, 0, none⟩) n cap) n R) {m : Nat} (hm : m ≤ n) : OwnP w base (some ⟨g, 0, none⟩) cap (R.take m) := by
  have hR : (R.take m).length = m := by rw [List.length_take, h.1]; omega
  refine ⟨by omega, ?_⟩
  rw [hR]
  rcases h.2 with ⟨h', _⟩ | ⟨g', cap', cur, hv, hb, hg, hnc, hcm, hcs, ht⟩
  · simp at h'
  · simp only [Value.slice.injEq, Option.some.injEq, Addr.mk.injEq, and_true, true_and] at hv
    obtain ⟨rfl, rfl⟩ := hv
    exact .inr ⟨g, cap, cur, rfl, hb, hg, by omega, hcm, hcs, by rw [← ht, List.take_take]; congr 1; omega⟩
theorem own_setCells {base g cap n : Nat} : ∀ (vs : List Value) (o : Nat) {w : World} {R : List Value}, w.ownsRow base 153 1 (.slice (some ⟨g, 0, none⟩) n cap) n R →
    ∃ R', (w.setCells g o vs).ownsRow base 153 1 (.slice (some ⟨g, 0, none⟩) n cap) n R' ∧ (∀ m, m ≤ o → R'.take m = R.take m) ∧ Frm [g] w (w.setCells g o vs)
  | [], o, w, R, h => ⟨R, h, fun _ _ => rfl, Frm.refl _ _⟩
  | v :: vs, o, w, R, h => by
    obtain ⟨R', h1, h2, h3⟩ := own_setCells vs (o + 1) (h.stored o v).1
    refine ⟨R', h1, fun m hm => ?_, ((Frm.refl [g] w).setCell (.inl (by simp)) v).trans h3 (by simp) (by simp)⟩
    rw [h2 m (by omega), List.take_set_of_le (by omega)]

/-- What is kept. -/
def keepQ (p : Nat → Bool) (qs : List Nat) : List Nat := qs.filter (fun q => !p q)
def DFRel (w : World) (base g cap n : Nat) (qs : List Nat) (p : Nat → Bool) (u5 u6 : Value) (wr : World) : Prop :=
  ∃ (i j : Nat) (R : List Value), u5 = .int .i64 (i : Nat) ∧ u6 = .int .i64 (j : Nat) ∧ i < j ∧ j ≤ n ∧ Hid (wr.ownsRow base 153 1 (.slice (some ⟨g, 0, none⟩) n cap) n R) ∧ Hid (R.take i = (keepQ p (qs.take j)).map ptr) ∧ Hid ((keepQ p (qs.take j)).length = i) ∧ Hid (R.drop j = (qs.drop j).map ptr) ∧ Hid (Frm [g] w wr)
theorem keepQ_step {p : Nat → Bool} {qs : List Nat} {j : Nat} (h : j < qs.length) : keepQ p (qs.take (j + 1)) = if p (qs.getD j 0) = true then keepQ p (qs.take j) else keepQ p (qs.take j) ++ [qs.getD j 0] := by
  have e : qs.getD j 0 = qs[j] := by simp [h]
  rw [e]
  unfold keepQ
  rw [List.take_succ_eq_append_getElem h, List.filter_append]
  cases hp : p qs[j] <;> simp [hp]
theorem keepQ_all {p : Nat → Bool} {qs : List Nat} {k : Nat} (h : ∀ j, j < k → p (qs.getD j 0) = false) : k ≤ qs.length → keepQ p (qs.take k) = qs.take k := by
  intro hk
  unfold keepQ
  rw [List.filter_eq_self]
  intro q hq
  obtain ⟨i, hi, rfl⟩ := List.getElem_of_mem hq
  rw [List.length_take] at hi
  have := h i (by omega)
  have e : qs.getD i 0 = qs[i]'(by omega) := by simp [show i < qs.length by omega]
  rw [e] at this
  rw [List.getElem_take, this]; rfl

set_option maxRecDepth 100000 in
set_option maxHeartbeats 4000000 in
theorem deleteP_any (a : Option Addr) (n cap base : Nat) (qs : List Nat) (fv : Array Value) (p : Nat → Bool) (w : World) (hl : OwnP w base a cap (qs.map ptr)) (hn : n = qs.length) (hfit : n ≤ 100000)
    (hp : ∀ wr, Frm (blk a) w wr → ∀ q ∈ qs, Calls Tryz.prog 134 (#[.pointer (some ⟨q, 0, none⟩)] ++ fv) wr fun e w' => e = .returned (.bool (p q)) ∧ Frm [] wr w') :
    Calls Tryz.prog 132 #[.slice a n cap, .func (.func 134) #[] fv] w fun e w' => ∃ m, e = .returned (.slice a m cap) ∧ m = (keepQ p qs).length ∧ OwnP w' base a cap ((keepQ p qs).map ptr) ∧ Frm (blk a) w w' := by
  have hidx := indexP_any a n cap qs fv (fun i => p (qs.getD i 0)) w [] rfl hl.vals hn hfit (fun wr hf i hi => hp wr (hf.weak (by simp)) _ (by simp [show i < qs.length by omega]))
  have HIX := Lib.hid hidx; clear hidx
  have HL := Lib.hid hl; clear hl
  have HN := Lib.hid hn; clear hn
  have HP := Lib.hid hp; clear hp
  go_enter Tryz.func132, Tryz.ntmps132
  go_wp2_with fail
  (with_reducible refine HIX.out.mono ?_)
  rintro e w1 ⟨r, rfl, hfirst, hf1⟩
  have HF1 := Lib.hid hf1; clear hf1
  rcases hfirst with ⟨rfl, hall⟩ | ⟨k, rfl, hkn, hk, hlo⟩
  · have hkq : keepQ p qs = qs := by
      have := keepQ_all (k := qs.length) (p := p) (qs := qs) (fun j hj => hall j (by have := HN.out; omega)) (Nat.le_refl _)
      rwa [List.take_of_length_le (Nat.le_refl _)] at this
    have HE : Hid (∃ m, Ending.returned (.slice a n cap) = .returned (.slice a m cap) ∧ m = (keepQ p qs).length ∧ OwnP w1 base a cap ((keepQ p qs).map ptr) ∧ Frm (blk a) w w1) := Lib.hid ⟨n, rfl, by rw [hkq]; exact HN.out, by rw [hkq]; exact HL.out.keep HF1.out (by simp), HF1.out.weak (by simp)⟩
    clear hall hkq
    go_wp2
    go_ret
    exact HE.out
  · obtain ⟨g, rfl⟩ : ∃ g, a = some ⟨g, 0, none⟩ := by
      have h1 := HL.out.2
      rcases h1 with ⟨_, h2⟩ | ⟨g, c, cur, hv, _⟩
      · rw [List.length_map, ← HN.out] at h2; omega
      · simp only [Value.slice.injEq] at hv; exact ⟨g, hv.1⟩
    have hne1 : ((k : Int) == -1) = false := beq_eq_false_iff_ne.2 (by omega)
    have hcap : n ≤ cap := by have := HL.out.caps.1; rwa [List.length_map, ← HN.out] at this
    have hcap2 : cap ≤ 9223372036854775807 := by have := HL.out.caps.2.1; unfold maxLen at this; omega
    have HST : Hid (DFRel w base g cap n qs p (.int .i64 (k : Nat)) (.int .i64 ((k + 1 : Nat) : Int)) w1) := by
      have hkl : k < qs.length := by have := HN.out; omega
      have hka := keepQ_all (k := k) (p := p) (qs := qs) hlo (by omega)
      have hstep := keepQ_step (p := p) (qs := qs) hkl
      rw [if_pos hk, hka] at hstep
      have ho := HL.out.keep HF1.out (by simp)
      unfold OwnP at ho
      rw [List.length_map, ← HN.out] at ho
      exact Lib.hid ⟨k, k + 1, _, rfl, rfl, by omega, by omega, Lib.hid ho, Lib.hid (by rw [hstep, List.map_take]), Lib.hid (by rw [hstep, List.length_take]; omega), Lib.hid (by rw [List.map_drop]), Lib.hid (HF1.out.weak (by simp))⟩
    clear hlo hk HF1
    have hsk : IntKind.i64.wrap ((k : Int) + 1) = (k : Int) + 1 := IntWalk.i64_in _ (by omega)
    go_wp2
    go_loopw [5, 6] (fun u5 u6 wr => DFRel w base g cap n qs p u5 u6 wr) (fun _ u6 _ => n - (intOf u6).toNat)
    case atStart => exact HST.out
    case round =>
      clear HST hsk hne1 hkn
      obtain ⟨i, j, R, rfl, rfl, hij, hjn, HO, HT, HK, HD, HF⟩ := hrel
      by_cases hlt : j < n
      · have hjq : j < qs.length := by have := HN.out; omega
        have hRl : R.length = n := by have := HO.out.1; omega
        have hcj : wr.cell? ⟨g, j, none⟩ = some (.pointer (some ⟨qs.getD j 0, 0, none⟩)) := by
          rw [HO.out.cellAt j (by omega)]
          have h1 : (R.drop j)[0]? = ((qs.drop j).map ptr)[0]? := by rw [HD.out]
          rw [List.getElem?_drop] at h1
          rw [show j + 0 = j from rfl] at h1
          rw [h1]
          simp [hjq, ptr]
        have hci : wr.cell? ⟨g, i, none⟩ = some (R.getD i default) := by
          rw [HO.out.cellAt i (by omega)]
          simp [show i < R.length by omega]
        have hfi := HO.out.frozenAt i
        have hstep := keepQ_step (p := p) (qs := qs) hjq
        have hqm : qs.getD j 0 ∈ qs := by simp [hjq]
        have hc := HP.out wr HF.out _ hqm
        have hdj : R.drop (j + 1) = (qs.drop (j + 1)).map ptr := by
          have h1 := congrArg (List.drop 1) HD.out
          rw [List.drop_drop] at h1
          rw [show j + 1 = j + 1 from rfl, h1, ← List.map_drop, List.drop_drop]
        obtain ⟨q, hq⟩ : ∃ q, q = qs.getD j 0 := ⟨_, rfl⟩
        rw [← hq] at hcj hstep hc
        generalize R.getD i default = old at hci
        have HDJ := Lib.hid hdj; clear hdj
        have HC := Lib.hid hc; clear hc
        have HRL := Lib.hid hRl; clear hRl
        clear hq hqm hjq
        cases hpq : p q
        · rw [hpq] at HC
          rw [hpq, if_neg (by simp)] at hstep
          have HSTEP := Lib.hid hstep; clear hstep hpq
          have HREL : Hid (∀ z, Frm [] wr z → DFRel w base g cap n qs p (.int .i64 ((i + 1 : Nat) : Int)) (.int .i64 ((j + 1 : Nat) : Int)) (z.setCell ⟨g, i, none⟩ (ptr q))) := Lib.hid fun z hz => by
            have ho := (hz.own HO.out (by simp))
            have hs := (ho.stored i (ptr q)).1
            have hil : i < R.length := by have := HRL.out; omega
            refine ⟨i + 1, j + 1, _, rfl, rfl, by omega, by omega, Lib.hid hs, Lib.hid ?_, Lib.hid ?_, Lib.hid ?_, Lib.hid ?_⟩
            · rw [HSTEP.out, List.map_append, ← HT.out, List.take_succ_eq_append_getElem (by simpa using hil), List.take_set_of_le (Nat.le_refl _)]
              simp
            · rw [HSTEP.out, List.length_append, HK.out]; rfl
            · rw [List.drop_set_of_lt (by omega)]; exact HDJ.out
            · exact ((HF.out.trans hz (U := [g]) (by simp) (by simp))).setCell (.inl (by simp)) _
          have HFZ : Hid (∀ z, Frm [] wr z → z.cell? ⟨g, i, none⟩ = some old ∧ z.frozen? ⟨g, i, none⟩ = false) := Lib.hid fun z hz => ⟨(hz.cell (block_lt_of_cell hci) (by simp)).trans hci, (hz.own HO.out (by simp)).frozenAt i⟩
          clear hci hfi
          go_wp2_with ((with_reducible refine HC.out.mono ?_); rintro e w' ⟨rfl, hf2⟩; obtain ⟨z1, z2⟩ := HFZ.out _ hf2; have HR2 := Lib.hid (HREL.out _ hf2); clear hf2)
          go_roundw
          case rel => exact HR2.out
          case measure => simp [intOf]; omega
        · rw [hpq] at HC
          rw [hpq, if_pos rfl] at hstep
          have HSTEP := Lib.hid hstep; clear hstep hpq
          have HREL : Hid (∀ z, Frm [] wr z → DFRel w base g cap n qs p (.int .i64 (i : Nat)) (.int .i64 ((j + 1 : Nat) : Int)) z) := Lib.hid fun z hz => by
            refine ⟨i, j + 1, R, rfl, rfl, by omega, by omega, Lib.hid (hz.own HO.out (by simp)), Lib.hid (by rw [HSTEP.out]; exact HT.out), Lib.hid (by rw [HSTEP.out]; exact HK.out), Lib.hid HDJ.out, Lib.hid ((HF.out.trans hz (U := [g]) (by simp) (by simp)))⟩
          clear hci hfi
          go_wp2_with ((with_reducible refine HC.out.mono ?_); rintro e w' ⟨rfl, hf2⟩; have HR2 := Lib.hid (HREL.out _ hf2); clear hf2)
          go_roundw
          case rel => exact HR2.out
          case measure => simp [intOf]; omega
      · obtain rfl : j = n := by omega
        have hqt : qs.take j = qs := List.take_of_length_le (by have := HN.out; omega)
        have hRl : R.length = j := by have := HO.out.1; omega
        have hcl : ∀ ty, (Builtin.clear_ #[150] ty #[.slice (some ⟨g, i, none⟩) (j - i) (cap - i)]).run Tryz.prog wr = .ok (.tuple #[]) (wr.setCells g i (List.replicate (j - i) (.pointer none))) :=
          fun ty => Lib.run_clear_slice wr _ _ ty _ Tryz.underlying150 (fun _ => by kernel_rfl) rfl rfl g i _ _ (by omega) (fun t ht => by rw [HO.out.cellAt (i + t) (by omega), List.getElem?_eq_getElem (by omega)]; rfl) (fun t ht => HO.out.frozenAt (i + t))
        obtain ⟨R', h1, h2, h3⟩ := own_setCells (List.replicate (j - i) (.pointer none)) i HO.out
        have hrun2 := fun w => run_cut1 (P := Tryz.prog) Tryz.underlying150 sizeP w (some ⟨g, 0, none⟩) j cap i (i : Int) rfl (by omega)
        have hcutv : cut1 (some ⟨g, 0, none⟩) cap i = some ⟨g, i, none⟩ := by
          unfold cut1
          rw [if_neg (by omega)]
          simp [addr_add]
        rw [hcutv] at hrun2
        have hhead := fun w => run_head_h (P := Tryz.prog) Tryz.underlying150 sizeP w (some ⟨g, 0, none⟩) j cap i (by omega)
        obtain ⟨wz, hwz⟩ : ∃ wz, wz = wr.setCells g i (List.replicate (j - i) (.pointer none)) := ⟨_, rfl⟩
        rw [← hwz] at h1 h3 hcl
        have HE : Hid (∃ m, Ending.returned (.slice (some ⟨g, 0, none⟩) i cap) = .returned (.slice (some ⟨g, 0, none⟩) m cap) ∧ m = (keepQ p qs).length ∧ OwnP wz base (some ⟨g, 0, none⟩) cap ((keepQ p qs).map ptr) ∧ Frm (blk (some ⟨g, 0, none⟩)) w wz) := Lib.hid (by
          have hk2 := HK.out
          have ht2 := HT.out
          rw [hqt] at hk2 ht2
          refine ⟨i, rfl, hk2.symm, ?_, (HF.out.trans h3 (U := [g]) (by simp) (by simp)).weak (by simp)⟩
          rw [← ht2, ← h2 i (Nat.le_refl _)]
          exact OwnP.head h1 (by omega))
        clear hqt hRl h1 h2 h3 hcutv hwz HP HIX
        go_wp2
        go_ret
        exact HE.out
end Go.Proofs.YtcbpppdmkhpkkaaGreat
/- Contract of the program's Get. -/
namespace Go.Proofs.YtcbpppdmkhpkkaaGreat
open Go.RowKit
set_option maxRecDepth 100000

def GetPEnd (w : World) (d : Nd) (b : Bool) (e : Ending) (w' : World) : Prop :=
  ∃ a' c', e = .returned (.tuple #[.agg #[.string d.k, .slice a' d.v.length c', .int .u64 (d.ver : Nat), .int .u64 (d.own : Nat)], .bool b]) ∧ Bytes w' a' d.v ∧ (a' = none → c' = 0) ∧ (∀ q, a' = some q → w.heap.size ≤ q.block) ∧ Frm [] w w'
theorem nd_default : (default : Nd) = ⟨⟨#[]⟩, [], 0, 0⟩ := rfl
/-- The node that Get answers. -/
def getN (L : List Nd) (s : ByteArray) : Nd := if isN L s = true then L.getD (ixN L s) default else default

set_option maxRecDepth 100000 in
set_option maxHeartbeats 1000000 in
theorem get_any {w : World} {B p : Nat} {F : List Nat} {a : Option Addr} {cap : Nat} {L : List Nx} {qs : List Nat} (s : ByteArray) (h : Pt w B p F a cap L qs) (hS : Srt (nds L)) (hk64 : ∀ d ∈ nds L, d.k.size ≤ 64 ∧ d.v.length ≤ 3840) :
    Calls Tryz.prog 53 #[.pointer (some ⟨p, 0, none⟩), .string s] w (GetPEnd w (getN (nds L) s) (isN (nds L) s)) := by
  obtain ⟨g, hg⟩ : ∃ g, g = w.heap.size := ⟨_, rfl⟩
  obtain ⟨wA, hA⟩ : ∃ wA, wA = w.alloc (.cells #[.string ⟨#[]⟩, .slice none 0 0, .int .u64 0, .int .u64 0] 58) := ⟨_, rfl⟩
  have hcA := Whole.made w 58 #[.string ⟨#[]⟩, .slice none 0 0, .int .u64 0, .int .u64 0]
  rw [← hA, ← hg] at hcA
  have hfA : Frm [] w wA := by rw [hA]; exact (Frm.refl _ _).alloc _
  have hP := h.keep (F' := F) hfA (by simp) (fun x hx => .inl hx)
  have HFI := Lib.hid (find_any s hP hS)
  have hgs : w.heap.size ≤ g := by omega
  have HG := Lib.hid hg
  have HA := Lib.hid hA
  have HF := Lib.hid hfA
  have HC := Lib.hid hcA
  have c0 := hP.tree.cell 0
  simp at c0
  have hfew := hP.few
  unfold getN
  cases his : isN (nds L) s
  · rw [if_neg (by simp), nd_default]
    rw [his] at HFI
    generalize ixN (nds L) s = ix at HFI
    have b0 := hcA.cell 0
    have b1 := hcA.cell 1
    have b2 := hcA.cell 2
    have b3 := hcA.cell 3
    have k0 := hcA.free 0
    have k1 := hcA.free 1
    have k2 := hcA.free 2
    have k3 := hcA.free 3
    simp at b0 b1 b2 b3
    obtain ⟨wZ, hZ⟩ : ∃ wZ, wZ = ((((wA.setCell ⟨g, 0, none⟩ (.string ⟨#[]⟩)).setCell ⟨g, 1, none⟩ (.slice none 0 0)).setCell ⟨g, 2, none⟩ (.int .u64 0)).setCell ⟨g, 3, none⟩ (.int .u64 0)) := ⟨_, rfl⟩
    have hw : Whole wZ g 58 #[.string ⟨#[]⟩, .slice none 0 0, .int .u64 0, .int .u64 0] := by
      have := (((hcA.put 0 (.string ⟨#[]⟩)).put 1 (.slice none 0 0)).put 2 (.int .u64 0)).put 3 (.int .u64 0)
      rw [hZ]; simpa using this
    have hfz : Frm [] w wZ := by rw [hZ]; exact (((hfA.setCell (.inr hgs) _).setCell (.inr hgs) _).setCell (.inr hgs) _).setCell (.inr hgs) _
    have HE := Lib.hid (show GetPEnd w ⟨⟨#[]⟩, [], 0, 0⟩ false (.returned (.tuple #[.agg #[.string ⟨#[]⟩, .slice none 0 0, .int .u64 0, .int .u64 0], .bool false])) wZ from ⟨none, 0, rfl, ⟨by simp, by simp, .inl rfl⟩, fun _ => rfl, fun q h => (by cases h), hfz⟩)
    have HZ := Lib.hid hZ
    have y0 := hw.cell 0
    have y1 := hw.cell 1
    have y2 := hw.cell 2
    have y3 := hw.cell 3
    simp at y0 y1 y2 y3
    clear h hP hS hcA hfA hA hg his hw hfz hZ hk64 hfew c0
    go_enter Tryz.func53, Tryz.ntmps53
    go_wp2_with fail
    rw [← HA.out, ← HG.out]
    (with_reducible refine HFI.out.mono ?_)
    rintro e w' ⟨rfl, rfl⟩
    go_wp2
    rw [← HZ.out]
    refine bodyPost_ret (v := .tuple #[.agg #[.string ⟨#[]⟩, .slice none 0 0, .int .u64 0, .int .u64 0], .bool false]) ?_ rfl ?_
    · simp [results, Tryz.results53, go_sem, y0, y1, y2, y3]
    · exact HE.out
  · rw [if_pos rfl]
    rw [his] at HFI
    have hlt : ixN (nds L) s < L.length := by
      obtain ⟨_, _, _, _, h4⟩ := isN_split his
      rwa [nds_len'] at h4
    obtain ⟨b, off, q, rfl, p0, hq, p1, p2, p3, p4, hok⟩ := hP.at hlt
    have hv : (nds L).getD (ixN (nds L) s) default = (L.getD (ixN (nds L) s) default).t := nds_getD
    have hkv := hk64 ((nds L).getD (ixN (nds L) s) default) (by simp [show ixN (nds L) s < (nds L).length by rw [nds_len']; exact hlt])
    rw [hv] at hkv ⊢
    obtain ⟨x, hx⟩ : ∃ x, x = L.getD (ixN (nds L) s) default := ⟨_, rfl⟩
    rw [← hx] at p1 p2 p3 p4 hok hkv ⊢
    obtain ⟨⟨xk, xv, xver, xown⟩, xa, xc⟩ := x
    simp only at p1 p2 p3 p4 hkv ⊢
    obtain ⟨m, hm⟩ : ∃ m, m = xv.length := ⟨_, rfl⟩
    rw [← hm] at p2 hkv
    generalize ixN (nds L) s = i at p0 hlt HFI
    obtain ⟨n, hn⟩ : ∃ n, n = L.length := ⟨_, rfl⟩
    rw [← hn] at c0 hfew hlt
    have HM := Lib.hid hm
    have HAL := Lib.hid (alone_any xk xa m xc xver xown xv wA hok.bytes hm hok.nil (by omega) (by omega))
    clear h hP hS hcA hfA hA hg his hk64 hx hok hq hv hkv hn hm
    go_enter Tryz.func53, Tryz.ntmps53
    go_wp2_with fail
    rw [← HA.out, ← HG.out]
    (with_reducible refine HFI.out.mono ?_)
    rintro e w' ⟨rfl, rfl⟩
    go_wp2_with fail
    (with_reducible refine HAL.out.mono ?_)
    rintro e w5 ⟨av, cv, rfl, hbv, hvnil, hvl, hf5⟩
    have hcA := hf5.whole HC.out (by simp)
    have b0 := hcA.cell 0
    have b1 := hcA.cell 1
    have b2 := hcA.cell 2
    have b3 := hcA.cell 3
    have k0 := hcA.free 0
    have k1 := hcA.free 1
    have k2 := hcA.free 2
    have k3 := hcA.free 3
    simp at b0 b1 b2 b3
    obtain ⟨wZ, hZ⟩ : ∃ wZ, wZ = ((((w5.setCell ⟨g, 0, none⟩ (.string xk)).setCell ⟨g, 1, none⟩ (.slice av m cv)).setCell ⟨g, 2, none⟩ (.int .u64 (xver : Nat))).setCell ⟨g, 3, none⟩ (.int .u64 (xown : Nat))) := ⟨_, rfl⟩
    have hw : Whole wZ g 58 #[.string xk, .slice av m cv, .int .u64 (xver : Nat), .int .u64 (xown : Nat)] := by
      have := (((hcA.put 0 (.string xk)).put 1 (.slice av m cv)).put 2 (.int .u64 (xver : Nat))).put 3 (.int .u64 (xown : Nat))
      rw [hZ]; simpa using this
    have hf5Z : Frm [g] w5 wZ := by rw [hZ]; exact ((((Frm.refl _ _).setCell (.inl (by simp)) _).setCell (.inl (by simp)) _).setCell (.inl (by simp)) _).setCell (.inl (by simp)) _
    have hfz : Frm [] w wZ := (HF.out.trans hf5 (U := []) (by simp) (by simp)).trans hf5Z (by simp) (fun x hx => by simp at hx; right; omega)
    have hgA := HC.out.lt
    have hbz : Bytes wZ av xv := hf5Z.bytes hbv (fun y hy hm => by have := hvl y hy; simp at hm; omega)
    have HE := Lib.hid (show GetPEnd w ⟨xk, xv, xver, xown⟩ true (.returned (.tuple #[.agg #[.string xk, .slice av m cv, .int .u64 (xver : Nat), .int .u64 (xown : Nat)], .bool true])) wZ from ⟨av, cv, by rw [HM.out], hbz, hvnil, fun y hy => Nat.le_trans HF.out.size (hvl y hy), hfz⟩)
    have HZ := Lib.hid hZ
    have y0 := hw.cell 0
    have y1 := hw.cell 1
    have y2 := hw.cell 2
    have y3 := hw.cell 3
    simp at y0 y1 y2 y3
    clear hcA hw hf5Z hfz hbz hZ hbv hvnil hvl hf5
    go_wp2
    rw [← HZ.out]
    refine bodyPost_ret (v := .tuple #[.agg #[.string xk, .slice av m cv, .int .u64 (xver : Nat), .int .u64 (xown : Nat)], .bool true]) ?_ rfl ?_
    · simp [results, Tryz.results53, go_sem, y0, y1, y2, y3]
    · exact HE.out
end Go.Proofs.YtcbpppdmkhpkkaaGreat
/- Contracts of the reference's Get, and of Put where it refuses. -/
namespace Go.Proofs.YtcbpppdmkhpkkaaGreat
open Go.RowKit
set_option maxRecDepth 100000

def GetEnd (w : World) (X : List Nx) (s : ByteArray) (e : Ending) (w' : World) : Prop :=
  e = .returned (.tuple #[(X.getD (atN X s) default).val, .bool (decide (atN X s < X.length))]) ∧ Frm [] w w'

end Go.Proofs.YtcbpppdmkhpkkaaGreat
/- Contract of the reference's Drop. -/
namespace Go.Proofs.YtcbpppdmkhpkkaaGreat
open Go.RowKit
set_option maxRecDepth 100000

theorem Tryz.info58 : (Tryz.prog.info? 58).map (fun i => (i.zero, i.size, i.bytes)) = some (some (.agg #[.string ⟨#[]⟩, .slice none 0 0, .int .u64 0, .int .u64 0]), 4, 56) := by kernel_rfl
theorem sizeN : ∀ w, (Go.sizeOf 58).run Tryz.prog w = .ok 4 w := fun _ => by kernel_rfl

/-- The nodes that stay when an owner's go. -/
def keepO (o : Nat) (X : List Nx) : List Nx := X.filter (fun x => decide (o = 0) || decide (x.t.own ≠ o))
theorem keepO_take {o : Nat} {X : List Nx} {k : Nat} (h : k < X.length) : keepO o (X.take (k + 1)) = keepO o (X.take k) ++ if o = 0 ∨ (X.getD k default).t.own ≠ o then [X.getD k default] else [] := by
  have e : X.getD k default = X[k] := by simp [h]
  rw [e]
  unfold keepO
  rw [List.take_succ_eq_append_getElem h, List.filter_append]
  congr 1
  by_cases h1 : o = 0 ∨ X[k].t.own ≠ o
  · rw [if_pos h1, List.filter_cons, if_pos (by simpa using h1)]; rfl
  · rw [if_neg h1, List.filter_cons, if_neg (by simpa using h1)]; rfl
theorem keepO_len (o : Nat) (X : List Nx) : (keepO o X).length ≤ X.length := List.length_filter_le _ _

/-- What a change of the tree leaves. -/
def RtTo (w w' : World) (B p : Nat) (F : List Nat) (X' : List Nx) : Prop := ∃ a' c', Rt w' B p F a' c' X' ∧ Frm [p] w w' ∧ ∀ g ∈ blk a', w.heap.size ≤ g
def RtEnd (w : World) (B p : Nat) (F : List Nat) (X' : List Nx) (v : Value) (e : Ending) (w' : World) : Prop := e = .returned v ∧ RtTo w w' B p F X'

/-- A list of nodes is stored in the tree. -/
theorem Rt.store {w w1 : World} {B p : Nat} {F : List Nat} {a a' : Option Addr} {cap c' : Nat} {X Y : List Nx} (h : Rt w B p F a cap X) (hf : Frm [] w w1) (hr : NOwn w1 w.heap.size 58 (p :: F) a' c' Y) (hl : Y.length ≤ 256) :
    RtTo w (w1.setCell ⟨p, 0, none⟩ (.slice a' Y.length c')) B p F Y := by
  have ht := (hf.whole h.tree (by simp)).put 0 (.slice a' Y.length c')
  have hs : Frm [p] w1 (w1.setCell ⟨p, 0, none⟩ (.slice a' Y.length c')) := (Frm.refl _ _).setCell (.inl (by simp)) _
  have hr2 := hr.keep (F' := p :: F) hs (fun x hx => .inl (by simp at hx; simp [hx])) (fun x hx => .inl hx)
  refine ⟨a', c', ⟨by simpa using ht, ⟨?_, hr2.ok, hr2.away⟩, h.hp, h.out, hl⟩, (hf.weak (by simp)).trans hs (fun x hx => hx) (fun x hx => .inl hx), fun g hg => (hr.blk_lt g hg).1⟩
  refine ⟨hr2.own.1, ?_⟩
  rcases hr2.own.2 with h2 | ⟨g, cp, cur, hv, hg, r⟩
  · exact .inl h2
  · exact .inr ⟨g, cp, cur, hv, by have := h.hp; have := h.tree.lt; omega, r⟩

def DrRel (w : World) (p : Nat) (F : List Nat) (o : Nat) (X : List Nx) (u4 u5 : Value) (wr : World) : Prop :=
  ∃ k a' c', k ≤ X.length ∧ u4 = .slice a' (keepO o (X.take k)).length c' ∧ u5 = .int .i64 (k : Nat) ∧ NOwn wr w.heap.size 58 (p :: F) a' c' (keepO o (X.take k)) ∧ Frm [] w wr

theorem nvals_one (w : World) (x : Nx) (t : TypeId) : ValsAt (w.alloc (.cells #[.string x.t.k, .slice x.a x.t.v.length x.c, .int .u64 (x.t.ver : Nat), .int .u64 (x.t.own : Nat)] t)) (some ⟨w.heap.size, 0, none⟩) (nc [x]) := by
  refine .inr ⟨_, _, rfl, fun i u hu => ?_⟩
  rw [(Whole.made w t _).cell, Nat.zero_add]
  simp only [nc, List.flatMap_cons, List.flatMap_nil, List.append_nil, Nx.cells] at hu
  rw [← hu]
  simp

end Go.Proofs.YtcbpppdmkhpkkaaGreat
/- Contract of the program's List. -/
namespace Go.Proofs.YtcbpppdmkhpkkaaGreat
open Go.RowKit
set_option maxRecDepth 100000

/-- A node of what is left of the row. -/
theorem Pt.at2 {w : World} {B p : Nat} {F : List Nat} {a : Option Addr} {cap : Nat} {L : List Nx} {qs : List Nat} (h : Pt w B p F a cap L qs) {ix k : Nat} (hk : ix + k < L.length) :
    ∃ b off q, cut1 a cap ix = some ⟨b, off, none⟩ ∧ w.cell? ⟨b, off + k, none⟩ = some (.pointer (some ⟨q, 0, none⟩)) ∧ w.cell? ⟨q, 0, none⟩ = some (.string (L.getD (ix + k) default).t.k) ∧ w.cell? ⟨q, 1, none⟩ = some (.slice (L.getD (ix + k) default).a (L.getD (ix + k) default).t.v.length (L.getD (ix + k) default).c) ∧
      w.cell? ⟨q, 2, none⟩ = some (.int .u64 ((L.getD (ix + k) default).t.ver : Nat)) ∧ w.cell? ⟨q, 3, none⟩ = some (.int .u64 ((L.getD (ix + k) default).t.own : Nat)) ∧ NxOk w (p :: F) (L.getD (ix + k) default) := by
  have hl : ix + k < qs.length := by rw [h.len]; exact hk
  have hn := h.nodes (ix + k) hk
  have hv := h.ptrs.drop (cap := cap) (by rw [List.length_map, h.len]; exact h.lcap) ix
  have hu : ((qs.map ptr).drop ix)[k]? = some (ptr (qs.getD (ix + k) 0)) := by simp [List.getElem?_drop, hl]
  rcases hv with h0 | ⟨b, off, h1, hc⟩
  · rw [h0] at hu; simp at hu
  · exact ⟨b, off, _, h1, hc k _ hu, hn.cell 0, hn.cell 1, hn.cell 2, hn.cell 3, h.ok _ (by simp [hk])⟩
theorem takeWhile_at {α : Type} {f : α → Bool} : ∀ (M : List α) (k : Nat), k ≤ M.length → (∀ d ∈ M.take k, f d = true) → (∀ d, M[k]? = some d → f d = false) → M.takeWhile f = M.take k
  | [], k, _, _, _ => by simp
  | x :: M, 0, _, _, h => by
    have := h x rfl
    simp [this]
  | x :: M, k + 1, hk, h1, h2 => by
    have hx := h1 x (by simp)
    rw [List.takeWhile_cons, if_pos hx, List.take_succ_cons, takeWhile_at M k (by simpa using hk) (fun d hd => h1 d (by simp [hd])) (fun d hd => h2 d (by simpa using hd))]

/-- A list of nodes of the call's own. -/
def ListN (w : World) (p : Nat) (F : List Nat) (M : List Nd) (e : Ending) (w' : World) : Prop :=
  ∃ a' c' Y, nds Y = M ∧ e = .returned (.slice a' Y.length c') ∧ NOwn w' w.heap.size 58 (p :: F) a' c' Y ∧ Frm [] w w'
def PLRel (w : World) (p : Nat) (F : List Nat) (P : ByteArray) (M : List Nd) (u5 u25 : Value) (wr : World) : Prop :=
  ∃ k a' c' Y, k ≤ M.length ∧ u5 = .slice a' k c' ∧ u25 = .int .i64 (k : Nat) ∧ Hid (nds Y = M.take k) ∧ Hid (∀ d ∈ M.take k, pfx P d.k = true) ∧ NOwn wr w.heap.size 58 (p :: F) a' c' Y ∧ Frm [] w wr

set_option maxRecDepth 100000 in
set_option maxHeartbeats 4000000 in
theorem list_any {w : World} {B p : Nat} {F : List Nat} {a : Option Addr} {cap : Nat} {L : List Nx} {qs : List Nat} (P : ByteArray) (h : Pt w B p F a cap L qs) (hS : Srt (nds L)) (hF : ∀ x ∈ F, x < w.heap.size) (hk64 : ∀ d ∈ nds L, d.k.size ≤ 64 ∧ d.v.length ≤ 3840) :
    Calls Tryz.prog 46 #[.pointer (some ⟨p, 0, none⟩), .string P] w (ListN w p F ((nds L).filter (fun d => pfx P d.k))) := by
  obtain ⟨i0, hi, hz0, hz1, hz2⟩ := info_parts Tryz.info58
  have HI := Lib.hid hi; clear hi
  have HZ0 := Lib.hid hz0; clear hz0
  have HZ1 := Lib.hid hz1; clear hz1
  have HZ2 := Lib.hid hz2; clear hz2
  have HFI := Lib.hid (find_any P h hS)
  have c0 := h.tree.cell 0
  simp at c0
  have hixl : ixN (nds L) P ≤ L.length := by rw [← nds_len']; exact ixN_le _ _
  obtain ⟨ix, hix⟩ : ∃ ix, ix = ixN (nds L) P := ⟨_, rfl⟩
  have HR := Lib.hid (pfx_list hS P)
  obtain ⟨M, hM⟩ : ∃ M, M = (nds L).drop ix := ⟨_, rfl⟩
  rw [← hix] at HFI hixl HR
  rw [← hM] at HR
  generalize isN (nds L) P = is at HFI
  have hcap := h.lcap
  obtain ⟨n, hn⟩ : ∃ n, n = L.length := ⟨_, rfl⟩
  rw [← hn] at c0 hixl hcap
  have hML : M.length = n - ix := by rw [hM, List.length_drop, nds_len', hn]
  have hcut2 := fun w => run_cut1 (P := Tryz.prog) Tryz.underlying150 sizeP w a n cap ix (ix : Int) rfl hixl
  obtain ⟨a2, ha2⟩ : ∃ a2, a2 = cut1 a cap ix := ⟨_, rfl⟩
  obtain ⟨n2, hn2⟩ : ∃ n2, n2 = n - ix := ⟨_, rfl⟩
  obtain ⟨c2, hc2⟩ : ∃ c2, c2 = cap - ix := ⟨_, rfl⟩
  rw [← ha2, ← hn2, ← hc2] at hcut2
  have hn256 : n2 ≤ 256 := by have := h.few; omega
  have HAT : Hid (∀ k, k < n2 → ∃ b off q x, a2 = some ⟨b, off, none⟩ ∧ M[k]? = some x.t ∧ w.cell? ⟨b, off + k, none⟩ = some (.pointer (some ⟨q, 0, none⟩)) ∧ w.cell? ⟨q, 0, none⟩ = some (.string x.t.k) ∧ w.cell? ⟨q, 1, none⟩ = some (.slice x.a x.t.v.length x.c) ∧
      w.cell? ⟨q, 2, none⟩ = some (.int .u64 (x.t.ver : Nat)) ∧ w.cell? ⟨q, 3, none⟩ = some (.int .u64 (x.t.own : Nat)) ∧ NxOk w (p :: F) x ∧ x.t.k.size ≤ 64 ∧ x.t.v.length ≤ 3840) := Lib.hid fun k hk => by
    obtain ⟨b, off, q, e, r0, r1, r2, r3, r4, r5⟩ := h.at2 (ix := ix) (k := k) (by omega)
    have hlt : ix + k < (nds L).length := by rw [nds_len']; omega
    have hm : M[k]? = some (L.getD (ix + k) default).t := by
      rw [hM, List.getElem?_drop, ← nds_getD]; simp [hlt]
    exact ⟨b, off, q, _, by rw [ha2]; exact e, hm, r0, r1, r2, r3, r4, r5, hk64 _ (by rw [← nds_getD]; simp [hlt])⟩
  have HMN : Hid (M.length = n2) := Lib.hid (by omega)
  have HPF : Hid (∀ x ∈ p :: F, x < w.heap.size) := Lib.hid fun x hx => by
    rcases List.mem_cons.1 hx with rfl | h1
    · exact h.tree.lt
    · exact hF x h1
  clear h hS hF hk64 hix hM hn hML ha2 hn2 hc2 hcap
  go_enter Tryz.func46, Tryz.ntmps46
  go_wp2_with fail
  (with_reducible refine HFI.out.mono ?_)
  rintro e w' ⟨rfl, rfl⟩
  go_wp2
  go_loopw [5, 25] (fun u5 u25 wr => PLRel w p F P M u5 u25 wr) (fun _ u25 _ => n2 - (intOf u25).toNat)
  case atStart => exact ⟨0, none, 0, [], Nat.zero_le _, rfl, rfl, Lib.hid (by simp [nds]), Lib.hid (by simp), NOwn.nil _ _ _ _, Frm.refl _ _⟩
  case round =>
    obtain ⟨k, a', c', Y, hk, rfl, rfl, HY, HPX, hown, hf⟩ := hrel
    have HO := Lib.hid hown; clear hown
    have HF := Lib.hid hf; clear hf
    have hYk : Y.length = k := by rw [← nds_len', HY.out, List.length_take]; omega
    have HYK := Lib.hid hYk; clear hYk
    have hk2 : k ≤ n2 := by have := HMN.out; omega
    have HK := Lib.hid hk; clear hk
    by_cases hlt : k < n2
    · obtain ⟨b, off, q, x, rfl, hm, r0, r1, r2, r3, r4, r5, hks, hvs⟩ := HAT.out k hlt
      have HM := Lib.hid hm; clear hm
      obtain ⟨⟨xk, xv, xver, xown⟩, xa, xc⟩ := x
      simp only at r1 r2 r3 r4 hks hvs HM
      have ok := r5.keep (F' := p :: F) HF.out (by simp) (fun x h => .inl h)
      have r0 := (HF.out.cell (block_lt_of_cell r0) (by simp)).trans r0
      have r1 := (HF.out.cell (block_lt_of_cell r1) (by simp)).trans r1
      have r2 := (HF.out.cell (block_lt_of_cell r2) (by simp)).trans r2
      have r3 := (HF.out.cell (block_lt_of_cell r3) (by simp)).trans r3
      have r4 := (HF.out.cell (block_lt_of_cell r4) (by simp)).trans r4
      obtain ⟨m, hmm⟩ : ∃ m, m = xv.length := ⟨_, rfl⟩
      rw [← hmm] at r2 hvs
      have HMM := Lib.hid hmm
      have HB := Lib.hid ok.bytes
      have HNU := Lib.hid (prefix_any xk P wr)
      have HAL := Lib.hid (alone_any xk xa m xc xver xown xv wr ok.bytes hmm ok.nil (by omega) (by omega))
      have OK := Lib.hid ok
      clear ok r5 hmm
      cases hp : pfx P xk
      · rw [hp] at HNU
        have hend : M.takeWhile (fun d => pfx P d.k) = M.take k := takeWhile_at M k HK.out HPX.out (fun d hd => by rw [HM.out] at hd; cases hd; exact hp)
        have HE := Lib.hid (show ListN w p F ((nds L).filter (fun d => pfx P d.k)) (.returned (.slice a' k c')) wr from ⟨a', c', Y, by rw [HY.out, ← hend, HR.out], by rw [HYK.out], HO.out, HF.out⟩)
        clear hp hend
        go_wp2_with ((with_reducible refine HNU.out.mono ?_); rintro e w' ⟨rfl, rfl⟩)
        go_ret
        exact HE.out
      · rw [hp] at HNU
        have hpx : ∀ d ∈ M.take (k + 1), pfx P d.k = true := fun d hd => by
          rw [List.take_add_one, HM.out] at hd
          rcases List.mem_append.1 hd with h1 | h1
          · exact HPX.out d h1
          · simp at h1; subst h1; exact hp
        have HPX2 := Lib.hid hpx
        clear hp hpx
        go_wp2_with ((with_reducible refine HNU.out.mono ?_); rintro e w' ⟨rfl, rfl⟩)
        go_wp2_with fail
        (with_reducible refine HAL.out.mono ?_)
        rintro e w5 ⟨av, cv, rfl, hbv, hvnil, hvl, hf5⟩
        obtain ⟨w6, hw6⟩ : ∃ w6, w6 = w5.alloc (.cells #[.string xk, .slice av m cv, .int .u64 (xver : Nat), .int .u64 (xown : Nat)] 58) := ⟨_, rfl⟩
        have hf6 : Frm [] wr w6 := by rw [hw6]; exact hf5.alloc _
        have hv6 : ValsAt w6 (some ⟨w5.heap.size, 0, none⟩) (nc [⟨⟨xk, xv, xver, xown⟩, av, cv⟩]) := by
          rw [hw6, HMM.out]; exact nvals_one w5 ⟨⟨xk, xv, xver, xown⟩, av, cv⟩ _
        have ho6 := HO.out.keep (F' := p :: F) hf6 (by simp) (fun x h => .inl h)
        have hok6 : NOk w6 (blk a' ++ (p :: F)) [⟨⟨xk, xv, xver, xown⟩, av, cv⟩] := fun y hy => by
          simp at hy
          subst hy
          refine ⟨by rw [hw6]; exact ((Frm.refl [] w5).alloc _).bytes hbv (by simp), fun _ x hx hmem => ?_, hvnil, OK.out.ver, OK.out.own, OK.out.key⟩
          have h1 := hvl x hx
          rcases List.mem_append.1 hmem with h | h
          · have := (HO.out.blk_lt _ h).2; omega
          · have := HPF.out _ h; have := HF.out.size; omega
        have hown6 := ho6.own
        rw [HYK.out] at hown6
        have HO6 := Lib.hid ho6
        have HW6 := Lib.hid hown6
        have HV6 := Lib.hid hv6
        have HK6 := Lib.hid hok6
        have HF6 := Lib.hid (HF.out.trans hf6 (U := []) (by simp) (by simp))
        have HWW := Lib.hid hw6
        have hfit1 : k + 1 ≤ 1000000000 := by omega
        clear hw6 hf6 hv6 ho6 hok6 hown6 hbv hvnil hvl hf5 HAL HNU
        go_wp2_with (at_builtin; rw [← HWW.out]; refine wpList_appS (by rfl) (.tmp 36) (.tmp 41) 28 rfl w.heap.size 58 i0 (.agg #[.string ⟨#[]⟩, .slice none 0 0, .int .u64 0, .int .u64 0]) 4 56 Tryz.underlying28 HI.out HZ0.out rfl (by decide) HZ1.out HZ2.out (by decide) (.slice a' k c') k _ rfl HW6.out _ 1 1 _ rfl HV6.out rfl (nc_one _) (fun h => by cases h) hfit1 HF6.out.size ?_)
        intro a7 c7 w7 happ
        obtain ⟨g1, g2, g3, g4⟩ := HO6.out.app HYK.out.symm HK6.out rfl (fun x hx => Nat.lt_of_lt_of_le (HPF.out x hx) HF6.out.size) happ
        have hf7 := HF6.out.trans g2 (U := []) (by simp) (fun x hx => .inr (HO6.out.blk_lt x hx).1)
        have HREL := Lib.hid (show PLRel w p F P M (.slice a7 (k + 1) c7) (.int .i64 ((k + 1 : Nat) : Int)) w7 from ⟨k + 1, a7, c7, _, by have := HMN.out; omega, rfl, rfl, Lib.hid (by rw [List.take_add_one, HM.out, ← HY.out]; simp [nds]), HPX2, g1, hf7⟩)
        clear happ g1 g2 g3 g4 hf7
        go_wp2
        go_roundw
        case rel => exact HREL.out
        case measure => simp [intOf]; omega
    · obtain rfl : k = n2 := by omega
      have hend : M.takeWhile (fun d => pfx P d.k) = M.take k := takeWhile_at M k HK.out HPX.out (fun d hd => by rw [List.getElem?_eq_none (by have := HMN.out; omega)] at hd; cases hd)
      have HE := Lib.hid (show ListN w p F ((nds L).filter (fun d => pfx P d.k)) (.returned (.slice a' k c')) wr from ⟨a', c', Y, by rw [HY.out, ← hend, HR.out], by rw [HYK.out], HO.out, HF.out⟩)
      clear hend
      go_wp2
      go_ret
      exact HE.out
end Go.Proofs.YtcbpppdmkhpkkaaGreat
/- Contract of the program's Put of a new key. -/
namespace Go.Proofs.YtcbpppdmkhpkkaaGreat
open Go.RowKit
set_option maxRecDepth 100000

set_option maxRecDepth 100000 in
set_option maxHeartbeats 4000000 in
theorem put_new {w : World} {B p : Nat} {F : List Nat} {a : Option Addr} {cap : Nat} {L : List Nx} {qs : List Nat} (s : ByteArray) (va : Option Addr) (vn vc : Nat) (v : List Nat) (own ix nv : Nat) (h : Pt w B p F a cap L qs) (hS : Srt (nds L)) (hF : ∀ x ∈ F, x < w.heap.size)
    (hb : Bytes w va v) (hv : vn = v.length) (hvn : va = none → vc = 0) (hl : lenC s.size vn = 0) (hown : own < 18446744073709551616) (hn0 : isN (nds L) s = false) (hfew : L.length < 256) (hix : ix = ixN (nds L) s) (hnv : nv = 1) :
    Calls Tryz.prog 94 #[.pointer (some ⟨p, 0, none⟩), .string s, .slice va vn vc, .int .u64 0, .int .u64 (own : Nat)] w (PtEnd w B p F ((nds L).take ix ++ ⟨s, v, nv, own⟩ :: (nds L).drop (ix)) (.tuple #[.int .u64 (nv : Nat), .int .i64 0])) := by
  have hlen : 1 ≤ s.size ∧ s.size ≤ 64 ∧ vn ≤ 3840 := by
    unfold lenC at hl
    split at hl
    · omega
    · split at hl <;> omega
  obtain ⟨_, hs64, hv38⟩ := hlen
  have HL := Lib.hid (lengths_any s va vn vc w (by omega) (by omega))
  rw [hl] at HL
  have HFI := Lib.hid (find_any s h hS)
  have HUN := Lib.hid (unwanted_any s 0 h)
  have hunw : unwC (nds L) s 0 = 0 := by unfold unwC; rw [if_neg (by rw [hn0]; simp), if_neg (by omega), if_neg (by rw [nds_len']; omega)]
  have his := hn0
  have hixl : ix ≤ L.length := by rw [hix, ← nds_len']; exact ixN_le _ _
  rw [hunw] at HUN
  rw [his] at HFI HUN
  rw [← hix] at HFI HUN
  have hcap : L.length ≤ cap := h.lcap
  have hmcap := h.mcap
  unfold maxLen at hmcap
  have hto : ix ≤ L.length := by omega
  obtain ⟨n, hnn⟩ : ∃ n, n = L.length := ⟨_, rfl⟩
  have hn : n ≤ 256 := by rw [hnn]; exact h.few
  have c0 := h.tree.cell 0
  rw [← hnn] at c0
  simp at c0
  rw [← hnn] at hcap hto
  have HH := Lib.hid h
  have HB := Lib.hid hb
  have HV := Lib.hid hv
  have HN := Lib.hid hnn
  have HFF := Lib.hid hF
  have HOWN := Lib.hid hown
  have HNV : Hid (nv < 18446744073709551616) := Lib.hid (by omega)
  have HAL := Lib.hid (alone_any s va vn vc nv own v w hb hv hvn (by omega) (by omega))
  rw [show ((0 : Nat) : Int) = 0 from rfl] at HUN
  have hnvi : (nv : Int) = 1 := by omega
  rw [hnvi] at HAL
  have hcut1 := fun w => run_head_h (P := Tryz.prog) Tryz.underlying150 sizeP w a n cap ix (by omega)
  have hcut2 := fun w => run_cut1 (P := Tryz.prog) Tryz.underlying150 sizeP w a n cap (ix) (ix : Int) (by omega) hto
  obtain ⟨a2, ha2⟩ : ∃ a2, a2 = cut1 a cap (ix) := ⟨_, rfl⟩
  obtain ⟨n2, hn2⟩ : ∃ n2, n2 = n - (ix) := ⟨_, rfl⟩
  obtain ⟨c2, hc2⟩ : ∃ c2, c2 = cap - (ix) := ⟨_, rfl⟩
  rw [← ha2, ← hn2, ← hc2] at hcut2
  have HP1 : Hid (PSlIn w ⟨a, cap, (qs.map ptr).take ix⟩) := Lib.hid ⟨h.ptrs.take ix, h.nil, by simp [h.len, ← hnn]; omega, by show cap ≤ _; omega, fun u hu => ptr_one qs u (List.mem_of_mem_take hu)⟩
  have HP2 : Hid (PSlIn w ⟨a2, c2, (qs.map ptr).drop (ix)⟩) := Lib.hid ⟨by rw [ha2]; exact h.ptrs.drop (by simp [h.len, ← hnn]; omega) _, fun h0 => by rw [hc2]; exact cut1_none h.nil (by rw [← ha2]; exact h0), by simp [h.len, ← hnn]; omega, by show c2 ≤ _; omega, fun u hu => ptr_one qs u (List.mem_of_mem_drop hu)⟩
  have HL1 : Hid (((qs.map ptr).take ix).length = ix) := Lib.hid (by simp [h.len, ← hnn]; omega)
  have HL2 : Hid (((qs.map ptr).drop (ix)).length = n2) := Lib.hid (by simp [h.len, ← hnn]; omega)
  have hn2n : ix + 1 + n2 ≤ n + 1 := by omega
  have HCNT : Hid (ix + 1 + n2 ≤ 256) := Lib.hid (by omega)
  have HN2 : Hid (n2 = n - (ix)) := Lib.hid hn2
  clear h hS hF hb hv hvn hl hown hnn ha2 hc2 hn2 his hunw hix hn0 hfew hnvi hnv
  go_enter Tryz.func94, Tryz.ntmps94
  go_wp2_with fail
  (with_reducible refine HL.out.mono ?_)
  rintro e w' ⟨rfl, rfl⟩
  go_wp2_with fail
  (with_reducible refine HFI.out.mono ?_)
  rintro e w' ⟨rfl, rfl⟩
  go_wp2_with fail
  (with_reducible refine HUN.out.mono ?_)
  rintro e w' ⟨rfl, rfl⟩
  go_wp2_with fail
  (with_reducible refine HAL.out.mono ?_)
  rintro e w5 ⟨av, cv, rfl, hbv, hvnil, hvl, hf5⟩
  clear HL HFI HUN HAL
  obtain ⟨q, hq⟩ : ∃ q, q = w5.heap.size := ⟨_, rfl⟩
  obtain ⟨w6, hw6⟩ : ∃ w6, w6 = w5.alloc (.cells #[.string s, .slice av vn cv, .int .u64 (nv : Nat), .int .u64 (own : Nat)] 58) := ⟨_, rfl⟩
  have hW6 := Whole.made w5 58 #[.string s, .slice av vn cv, .int .u64 (nv : Nat), .int .u64 (own : Nat)]
  rw [← hw6, ← hq] at hW6
  have hf6 : Frm [] w w6 := by rw [hw6]; exact hf5.alloc _
  have hbv6 : Bytes w6 av v := by rw [hw6]; exact ((Frm.refl [] w5).alloc _).bytes hbv (by simp)
  have hq6 : w.heap.size ≤ q := by rw [hq]; exact hf5.size
  have c6 := (hf6.whole HH.out.tree (by simp)).cell 0
  rw [← HN.out] at c6
  simp at c6
  have HQ := Lib.hid hq
  have HW6 := Lib.hid hw6
  have HX6 := Lib.hid hW6
  have HF6 := Lib.hid hf6
  have HBV := Lib.hid hbv6
  have HVN := Lib.hid hvnil
  have HVL := Lib.hid hvl
  clear hbv hvnil hvl hf5 hq hw6 hW6 hf6 hbv6
  go_wp2
  rw [← HW6.out, ← HQ.out]
  obtain ⟨w7, hw7⟩ : ∃ w7, w7 = ((w6.alloc (.cells #[.pointer (some ⟨q, 0, none⟩)] 153)).alloc (.cells #[.slice a ix cap, .slice (some ⟨w6.heap.size, 0, none⟩) 1 1, .slice a2 n2 c2] 150)).drew := ⟨_, rfl⟩
  have hf67 : Frm [] w6 w7 := by rw [hw7]; exact (((Frm.refl [] w6).alloc _).alloc _).drew
  have hlit : Whole w7 w6.heap.size 153 #[ptr q] := by
    have h1 := Whole.made w6 153 #[ptr q]
    rw [hw7]; exact (h1.alloc _).drew
  have hsls : PSlsIn w7 (w6.heap.size + 1) [⟨a, cap, (qs.map ptr).take ix⟩, ⟨some ⟨w6.heap.size, 0, none⟩, 1, [ptr q]⟩, ⟨a2, c2, (qs.map ptr).drop (ix)⟩] := by
    have h1 := (Whole.made (w6.alloc (.cells #[.pointer (some ⟨q, 0, none⟩)] 153)) 150 #[.slice a ix cap, .slice (some ⟨w6.heap.size, 0, none⟩) 1 1, .slice a2 n2 c2]).drew
    rw [← hw7] at h1
    have e1 : (w6.alloc (.cells #[.pointer (some ⟨q, 0, none⟩)] 153)).heap.size = w6.heap.size + 1 := by simp
    rw [e1] at h1
    have hff := HF6.out.trans hf67 (U := []) (by simp) (by simp)
    have s1 : PSlIn w7 ⟨some ⟨w6.heap.size, 0, none⟩, 1, [ptr q]⟩ := by
      refine ⟨.inr ⟨_, _, rfl, fun i u hu => ?_⟩, (fun h => by cases h), Nat.le_refl _, (show (1 : Nat) ≤ _ by omega), fun u hu => by simp at hu; subst hu; rfl⟩
      rw [hlit.cell, Nat.zero_add]; simpa using hu
    intro k hk
    have hk3 : k = 0 ∨ k = 1 ∨ k = 2 := by simp at hk; omega
    rcases hk3 with rfl | rfl | rfl
    · exact ⟨by rw [h1.cell]; simp [List.getD]; have h2 := HL1.out; rw [List.length_take, List.length_map] at h2; omega, HP1.out.keep hff⟩
    · exact ⟨by rw [h1.cell]; rfl, s1⟩
    · exact ⟨by rw [h1.cell]; simp [List.getD]; have h2 := HL2.out; rw [List.length_drop, List.length_map] at h2; omega, HP2.out.keep hff⟩
  have hall : pall [⟨a, cap, (qs.map ptr).take ix⟩, ⟨some ⟨w6.heap.size, 0, none⟩, 1, [ptr q]⟩, ⟨a2, c2, (qs.map ptr).drop (ix)⟩] = (qs.take ix ++ q :: qs.drop (ix)).map ptr := by
    simp [pall, List.map_take, List.map_drop]
  have hcat := concatP_any hsls (n := 3) rfl (by omega) (by rw [hall]; simp [HH.out.len, ← HN.out]; omega)
  rw [hall] at hcat
  have hlq : ((qs.take ix ++ q :: qs.drop (ix)).map ptr).length = ix + 1 + n2 := by
    have h1 := HL1.out; have h2 := HL2.out
    simp at h1 h2 ⊢
    omega
  have HLQ := Lib.hid hlq
  have HF7 := Lib.hid (HF6.out.trans hf67 (U := []) (by simp) (by simp))
  have HLX := Lib.hid (HX6.out.lt)
  have HF67 := Lib.hid hf67
  have c7 := ((HF6.out.alloc (.cells #[.pointer (some ⟨q, 0, none⟩)] 153)).whole HH.out.tree (by simp)).cell 0
  rw [← HN.out] at c7
  simp at c7
  rw [hw7] at hcat
  have HCA := Lib.hid hcat
  have HW7 := Lib.hid hw7
  clear hcat hlq hall hsls hlit hf67 hw7
  go_region_law (go_simp; go_at_call 96; (with_reducible refine HCA.out.mono ?_); rintro e w9 ⟨a9, c9, rfl, ho9, hf9⟩; rw [← HW7.out] at hf9 ho9; rw [HLQ.out]; have hf79 := Lib.hid (HF7.out.trans hf9 (U := []) (by simp) (by simp)); have hO9 := Lib.hid ho9; have hF9 := Lib.hid hf9; have c9p := (hf79.out.whole HH.out.tree (by simp)).cell 0; rw [← HN.out] at c9p; simp at c9p; have f9p := (hf79.out.whole HH.out.tree (by simp)).free 0; clear ho9 hf9)
  all_goals
    have hp79 := HF67.out.trans hF9.out (U := []) (by simp) (by simp)
    have hx9 := hp79.whole HX6.out (by simp)
    have hqp : q ≠ p := by have := HH.out.tree.lt; omega
    have hdone := put_done ix (ix) ⟨⟨s, v, nv, own⟩, av, cv⟩ q HH.out HFF.out hf79.out (by rw [HV.out] at hx9; exact hx9) ⟨hp79.bytes HBV.out (by simp), fun _ x hx hm => (by
      have h1 := HVL.out x hx
      rcases List.mem_cons.1 hm with h2 | h2
      · have := HH.out.tree.lt; omega
      · have := HFF.out _ h2; omega), HVN.out, HNV.out, HOWN.out, (by show s.size ≤ _; omega)⟩ hq6 (OwnP.low hO9.out HF7.out.size) (ix + 1 + n2) (by have := HLQ.out; rwa [List.length_map] at this) HCNT.out
    have HST := Lib.hid hdone
    have cz := (hx9.other (p := ⟨p, 0, none⟩) hqp (.slice a9 (ix + 1 + n2) c9)).cell 2
    simp at cz
    clear hdone hx9 hp79 hqp hf79 hO9 hF9
    go_wp2
    go_ret2
    exact ⟨rfl, HST.out⟩

end Go.Proofs.YtcbpppdmkhpkkaaGreat
/- Contract of the program's Put of a key that is there. -/
namespace Go.Proofs.YtcbpppdmkhpkkaaGreat
open Go.RowKit
set_option maxRecDepth 100000

set_option maxRecDepth 100000 in
set_option maxHeartbeats 4000000 in
theorem put_old {w : World} {B p : Nat} {F : List Nat} {a : Option Addr} {cap : Nat} {L : List Nx} {qs : List Nat} (s : ByteArray) (va : Option Addr) (vn vc : Nat) (v : List Nat) (want own own0 ix nv : Nat) (h : Pt w B p F a cap L qs) (hS : Srt (nds L)) (hF : ∀ x ∈ F, x < w.heap.size)
    (hb : Bytes w va v) (hv : vn = v.length) (hvn : va = none → vc = 0) (hl : lenC s.size vn = 0) (hown : own < 18446744073709551616) (hn0 : isN (nds L) s = true) (hw0 : want ≠ 0) (hver : ((nds L).getD (ixN (nds L) s) default).ver = want) (ho : ((nds L).getD (ixN (nds L) s) default).own = own) (hix : ix = ixN (nds L) s) (hnv : nv = (want + 1) % 18446744073709551616) :
    Calls Tryz.prog 94 #[.pointer (some ⟨p, 0, none⟩), .string s, .slice va vn vc, .int .u64 (want : Nat), .int .u64 (own0 : Nat)] w (PtEnd w B p F ((nds L).take ix ++ ⟨s, v, nv, own⟩ :: (nds L).drop (ix + 1)) (.tuple #[.int .u64 (nv : Nat), .int .i64 0])) := by
  have hlen : 1 ≤ s.size ∧ s.size ≤ 64 ∧ vn ≤ 3840 := by
    unfold lenC at hl
    split at hl
    · omega
    · split at hl <;> omega
  obtain ⟨_, hs64, hv38⟩ := hlen
  have HL := Lib.hid (lengths_any s va vn vc w (by omega) (by omega))
  rw [hl] at HL
  have HFI := Lib.hid (find_any s h hS)
  have HUN := Lib.hid (unwanted_any s want h)
  have hunw : unwC (nds L) s want = 0 := by unfold unwC; rw [if_pos hn0, if_neg hw0, if_neg (by rw [hver]; simp)]
  have his := hn0
  have hixl : ix < L.length := by
    obtain ⟨_, _, _, _, h4⟩ := isN_split hn0
    rw [nds_len', ← hix] at h4; exact h4
  obtain ⟨b, off, q0, rfl, r0, hq0, _, _, r3, r4, _⟩ := h.at hixl
  have hown4 : (L.getD ix default).t.own = own := by rw [← nds_getD, hix]; exact ho
  rw [hown4] at r4
  have hwi0 : ((want : Int) + 1) % 18446744073709551616 = (nv : Int) := by omega
  have hwi : IntKind.u64.wrap ((want : Int) + 1) = (nv : Int) := by rw [← hwi0]; simp [IntKind.wrap, IntKind.bits, IntKind.signed]
  rw [hunw] at HUN
  rw [his] at HFI HUN
  rw [← hix] at HFI HUN
  have hcap : L.length ≤ cap := h.lcap
  have hmcap := h.mcap
  unfold maxLen at hmcap
  have hto : ix + 1 ≤ L.length := by omega
  obtain ⟨n, hnn⟩ : ∃ n, n = L.length := ⟨_, rfl⟩
  have hn : n ≤ 256 := by rw [hnn]; exact h.few
  have c0 := h.tree.cell 0
  rw [← hnn] at c0
  simp at c0
  rw [← hnn] at hcap hto
  have HH := Lib.hid h
  have HB := Lib.hid hb
  have HV := Lib.hid hv
  have HN := Lib.hid hnn
  have HFF := Lib.hid hF
  have HOWN := Lib.hid hown
  have HNV : Hid (nv < 18446744073709551616) := Lib.hid (by omega)
  have HAL := Lib.hid (alone_any s va vn vc nv own v w hb hv hvn (by omega) (by omega))
  have hsi : IntKind.i64.wrap ((ix : Int) + 1) = (ix : Int) + 1 := IntWalk.i64_in _ (by have := h.few; omega)
  have hcut1 := fun w => run_head_h (P := Tryz.prog) Tryz.underlying150 sizeP w (some ⟨b, off, none⟩) n cap ix (by omega)
  have hcut2 := fun w => run_cut1 (P := Tryz.prog) Tryz.underlying150 sizeP w (some ⟨b, off, none⟩) n cap (ix + 1) ((ix : Int) + 1) (by omega) hto
  obtain ⟨a2, ha2⟩ : ∃ a2, a2 = cut1 (some ⟨b, off, none⟩) cap (ix + 1) := ⟨_, rfl⟩
  obtain ⟨n2, hn2⟩ : ∃ n2, n2 = n - (ix + 1) := ⟨_, rfl⟩
  obtain ⟨c2, hc2⟩ : ∃ c2, c2 = cap - (ix + 1) := ⟨_, rfl⟩
  rw [← ha2, ← hn2, ← hc2] at hcut2
  have HP1 : Hid (PSlIn w ⟨(some ⟨b, off, none⟩), cap, (qs.map ptr).take ix⟩) := Lib.hid ⟨h.ptrs.take ix, h.nil, by simp [h.len, ← hnn]; omega, by show cap ≤ _; omega, fun u hu => ptr_one qs u (List.mem_of_mem_take hu)⟩
  have HP2 : Hid (PSlIn w ⟨a2, c2, (qs.map ptr).drop (ix + 1)⟩) := Lib.hid ⟨by rw [ha2]; exact h.ptrs.drop (by simp [h.len, ← hnn]; omega) _, fun h0 => by rw [hc2]; exact cut1_none h.nil (by rw [← ha2]; exact h0), by simp [h.len, ← hnn]; omega, by show c2 ≤ _; omega, fun u hu => ptr_one qs u (List.mem_of_mem_drop hu)⟩
  have HL1 : Hid (((qs.map ptr).take ix).length = ix) := Lib.hid (by simp [h.len, ← hnn]; omega)
  have HL2 : Hid (((qs.map ptr).drop (ix + 1)).length = n2) := Lib.hid (by simp [h.len, ← hnn]; omega)
  have hn2n : ix + 1 + n2 ≤ n + 1 := by omega
  have HCNT : Hid (ix + 1 + n2 ≤ 256) := Lib.hid (by omega)
  have HN2 : Hid (n2 = n - (ix + 1)) := Lib.hid hn2
  clear h hS hF hb hv hvn hl hown hnn ha2 hc2 hn2 his hunw hix hn0 hw0 hver ho hnv hown4 r3 hq0 hwi0
  go_enter Tryz.func94, Tryz.ntmps94
  go_wp2_with fail
  (with_reducible refine HL.out.mono ?_)
  rintro e w' ⟨rfl, rfl⟩
  go_wp2_with fail
  (with_reducible refine HFI.out.mono ?_)
  rintro e w' ⟨rfl, rfl⟩
  go_wp2_with fail
  (with_reducible refine HUN.out.mono ?_)
  rintro e w' ⟨rfl, rfl⟩
  go_wp2_with fail
  (with_reducible refine HAL.out.mono ?_)
  rintro e w5 ⟨av, cv, rfl, hbv, hvnil, hvl, hf5⟩
  clear HL HFI HUN HAL
  obtain ⟨q, hq⟩ : ∃ q, q = w5.heap.size := ⟨_, rfl⟩
  obtain ⟨w6, hw6⟩ : ∃ w6, w6 = w5.alloc (.cells #[.string s, .slice av vn cv, .int .u64 (nv : Nat), .int .u64 (own : Nat)] 58) := ⟨_, rfl⟩
  have hW6 := Whole.made w5 58 #[.string s, .slice av vn cv, .int .u64 (nv : Nat), .int .u64 (own : Nat)]
  rw [← hw6, ← hq] at hW6
  have hf6 : Frm [] w w6 := by rw [hw6]; exact hf5.alloc _
  have hbv6 : Bytes w6 av v := by rw [hw6]; exact ((Frm.refl [] w5).alloc _).bytes hbv (by simp)
  have hq6 : w.heap.size ≤ q := by rw [hq]; exact hf5.size
  have c6 := (hf6.whole HH.out.tree (by simp)).cell 0
  rw [← HN.out] at c6
  simp at c6
  have HQ := Lib.hid hq
  have HW6 := Lib.hid hw6
  have HX6 := Lib.hid hW6
  have HF6 := Lib.hid hf6
  have HBV := Lib.hid hbv6
  have HVN := Lib.hid hvnil
  have HVL := Lib.hid hvl
  clear hbv hvnil hvl hf5 hq hw6 hW6 hf6 hbv6
  go_wp2
  rw [← HW6.out, ← HQ.out]
  obtain ⟨w7, hw7⟩ : ∃ w7, w7 = ((w6.alloc (.cells #[.pointer (some ⟨q, 0, none⟩)] 153)).alloc (.cells #[.slice (some ⟨b, off, none⟩) ix cap, .slice (some ⟨w6.heap.size, 0, none⟩) 1 1, .slice a2 n2 c2] 150)).drew := ⟨_, rfl⟩
  have hf67 : Frm [] w6 w7 := by rw [hw7]; exact (((Frm.refl [] w6).alloc _).alloc _).drew
  have hlit : Whole w7 w6.heap.size 153 #[ptr q] := by
    have h1 := Whole.made w6 153 #[ptr q]
    rw [hw7]; exact (h1.alloc _).drew
  have hsls : PSlsIn w7 (w6.heap.size + 1) [⟨(some ⟨b, off, none⟩), cap, (qs.map ptr).take ix⟩, ⟨some ⟨w6.heap.size, 0, none⟩, 1, [ptr q]⟩, ⟨a2, c2, (qs.map ptr).drop (ix + 1)⟩] := by
    have h1 := (Whole.made (w6.alloc (.cells #[.pointer (some ⟨q, 0, none⟩)] 153)) 150 #[.slice (some ⟨b, off, none⟩) ix cap, .slice (some ⟨w6.heap.size, 0, none⟩) 1 1, .slice a2 n2 c2]).drew
    rw [← hw7] at h1
    have e1 : (w6.alloc (.cells #[.pointer (some ⟨q, 0, none⟩)] 153)).heap.size = w6.heap.size + 1 := by simp
    rw [e1] at h1
    have hff := HF6.out.trans hf67 (U := []) (by simp) (by simp)
    have s1 : PSlIn w7 ⟨some ⟨w6.heap.size, 0, none⟩, 1, [ptr q]⟩ := by
      refine ⟨.inr ⟨_, _, rfl, fun i u hu => ?_⟩, (fun h => by cases h), Nat.le_refl _, (show (1 : Nat) ≤ _ by omega), fun u hu => by simp at hu; subst hu; rfl⟩
      rw [hlit.cell, Nat.zero_add]; simpa using hu
    intro k hk
    have hk3 : k = 0 ∨ k = 1 ∨ k = 2 := by simp at hk; omega
    rcases hk3 with rfl | rfl | rfl
    · exact ⟨by rw [h1.cell]; simp [List.getD]; have h2 := HL1.out; rw [List.length_take, List.length_map] at h2; omega, HP1.out.keep hff⟩
    · exact ⟨by rw [h1.cell]; rfl, s1⟩
    · exact ⟨by rw [h1.cell]; simp [List.getD]; have h2 := HL2.out; rw [List.length_drop, List.length_map] at h2; omega, HP2.out.keep hff⟩
  have hall : pall [⟨(some ⟨b, off, none⟩), cap, (qs.map ptr).take ix⟩, ⟨some ⟨w6.heap.size, 0, none⟩, 1, [ptr q]⟩, ⟨a2, c2, (qs.map ptr).drop (ix + 1)⟩] = (qs.take ix ++ q :: qs.drop (ix + 1)).map ptr := by
    simp [pall, List.map_take, List.map_drop]
  have hcat := concatP_any hsls (n := 3) rfl (by omega) (by rw [hall]; simp [HH.out.len, ← HN.out]; omega)
  rw [hall] at hcat
  have hlq : ((qs.take ix ++ q :: qs.drop (ix + 1)).map ptr).length = ix + 1 + n2 := by
    have h1 := HL1.out; have h2 := HL2.out
    simp at h1 h2 ⊢
    omega
  have HLQ := Lib.hid hlq
  have HF7 := Lib.hid (HF6.out.trans hf67 (U := []) (by simp) (by simp))
  have HLX := Lib.hid (HX6.out.lt)
  have HF67 := Lib.hid hf67
  have c7 := ((HF6.out.alloc (.cells #[.pointer (some ⟨q, 0, none⟩)] 153)).whole HH.out.tree (by simp)).cell 0
  rw [← HN.out] at c7
  simp at c7
  rw [hw7] at hcat
  have HCA := Lib.hid hcat
  have HW7 := Lib.hid hw7
  clear hcat hlq hall hsls hlit hf67 hw7
  go_region_law (go_simp; go_at_call 96; (with_reducible refine HCA.out.mono ?_); rintro e w9 ⟨a9, c9, rfl, ho9, hf9⟩; rw [← HW7.out] at hf9 ho9; rw [HLQ.out]; have hf79 := Lib.hid (HF7.out.trans hf9 (U := []) (by simp) (by simp)); have hO9 := Lib.hid ho9; have hF9 := Lib.hid hf9; have c9p := (hf79.out.whole HH.out.tree (by simp)).cell 0; rw [← HN.out] at c9p; simp at c9p; have f9p := (hf79.out.whole HH.out.tree (by simp)).free 0; clear ho9 hf9)
  all_goals
    have hp79 := HF67.out.trans hF9.out (U := []) (by simp) (by simp)
    have hx9 := hp79.whole HX6.out (by simp)
    have hqp : q ≠ p := by have := HH.out.tree.lt; omega
    have hdone := put_done ix (ix + 1) ⟨⟨s, v, nv, own⟩, av, cv⟩ q HH.out HFF.out hf79.out (by rw [HV.out] at hx9; exact hx9) ⟨hp79.bytes HBV.out (by simp), fun _ x hx hm => (by
      have h1 := HVL.out x hx
      rcases List.mem_cons.1 hm with h2 | h2
      · have := HH.out.tree.lt; omega
      · have := HFF.out _ h2; omega), HVN.out, HNV.out, HOWN.out, (by show s.size ≤ _; omega)⟩ hq6 (OwnP.low hO9.out HF7.out.size) (ix + 1 + n2) (by have := HLQ.out; rwa [List.length_map] at this) HCNT.out
    have HST := Lib.hid hdone
    have cz := (hx9.other (p := ⟨p, 0, none⟩) hqp (.slice a9 (ix + 1 + n2) c9)).cell 2
    simp at cz
    clear hdone hx9 hp79 hqp hf79 hO9 hF9
    go_wp2
    go_ret2
    exact ⟨rfl, HST.out⟩

end Go.Proofs.YtcbpppdmkhpkkaaGreat
