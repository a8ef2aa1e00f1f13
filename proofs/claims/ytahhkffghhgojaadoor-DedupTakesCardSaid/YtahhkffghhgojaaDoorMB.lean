/- Contracts and mathematics that the proofs of this seat stand on: Elems, OwnVals, Sn, Ln, Kl, LnCut, TbMath, TkMath, TkRd, EqLn. -/
import Derived.Test.YtahhkffghhgojaaDoorMA
import Derived.Lib.Strings
import Derived.Lib.Bytealg
import Derived.WalkKit
import Derived.Laws.StructEq
/- Rows of the call's own of elements of several cells each; appending cells to them, also to a slice without spare room. They speak of no program. -/
namespace Go.Proofs.YtahhkffghhgojaaDoor
open Go.RowKit

section
variable {P : Program} {w : World}
/-- What appending the cells us (m elements) to an owned value leaves. -/
structure AppS (w w' : World) (base : Nat) (e : TypeId) (sz : Nat) (v : Value) (n m : Nat) (xs us : List Value) (a' : Option Addr) (cap' : Nat) : Prop where
  own : w'.ownsRow base e sz (.slice a' (n + m) cap') (n + m) (xs ++ us)
  grown : w.grownBy w' v.ownBlock
  place : (Value.slice a' (n + m) cap').ownBlock = v.ownBlock ∨ (Value.slice a' (n + m) cap').ownBlock = some w.heap.size
theorem slice_shape {w : World} {base : Nat} {e : TypeId} {sz n : Nat} {v : Value} {xs : List Value} (h : w.ownsRow base e sz v n xs) : ∃ a cap, v = .slice a n cap := by
  rcases h.2 with ⟨hv, h0⟩ | ⟨g, cap', cur, hv, _⟩
  · exact ⟨none, 0, by rw [hv, h0]⟩
  · exact ⟨_, cap', hv⟩

theorem run_appS (base : Nat) (t ty e : TypeId) (i : TypeInfo) (z : Value) (sz by' : Nat) (ht : P.underlying t = some (.slice e)) (hi : P.info? e = some i) (hz : i.zero = some z) (hz1 : z.cells.size = sz) (hsz : 0 < sz)
    (hsize : i.size = sz) (hby : i.bytes = by') (hb : by' ≤ 100) (v : Value) (n : Nat) (xs : List Value) (hown : w.ownsRow base e sz v n xs)
    (ad : Option Addr) (m c : Nat) (us : List Value) (hB : ValsAt w ad us) (hm : us.length = m * sz) (hone : ∀ u ∈ us, u.oneCell' = true) (hnil : ad = none → c = 0)
    (hfit : n + m ≤ 1000000000) (hbase : base ≤ w.heap.size) :
    ∃ a' cap' w', (Builtin.append_ #[t, t] ty #[v, .slice ad m c]).run P w = .ok (.slice a' (n + m) cap') w' ∧ AppS w w' base e sz v n m xs us a' cap' := by
  cases ad with
  | none =>
    have hc0 := hnil rfl
    subst hc0
    have hl0 : us = [] := by
      rcases hB with h | ⟨_, _, h, _⟩
      · exact h
      · cases h
    subst hl0
    have hm0 : m = 0 := by
      rcases Nat.eq_zero_or_pos m with h | h
      · exact h
      · have := Nat.mul_pos h hsz; simp at hm; omega
    subst hm0
    obtain ⟨a', cap', hv⟩ := slice_shape hown
    subst hv
    exact ⟨a', cap', w, run_append_owned_none (P := P) (w := w) base t ty e i sz ht hi _ n xs hown, by simpa using hown, World.grownBy.refl _ _, .inl rfl⟩
  | some x =>
    have hnews : ∀ j u, us[j]? = some u → w.cell? (x.add j) = some u := by
      rcases hB with h | ⟨b, off, h, hh⟩
      · subst h; intro j u hu; simp at hu
      · cases h
        intro j u hu
        rw [addr_add]
        exact hh j u hu
    obtain ⟨v', w', hr, ho, hg, _, hpl⟩ := run_append_own_at (P := P) w base t ty e i z sz by' ht hi hz hsize hby hz1 hsz v n xs hown x m c us hm hnews hone (by unfold maxLen; omega)
      (by have := Nat.mul_le_mul hfit hb; omega) hbase
    obtain ⟨a', cap', hv⟩ := slice_shape ho
    subst hv
    exact ⟨a', cap', w', hr, ho, hg, hpl⟩

theorem wpList_appS {ops : Array Oper} {rest : List Oper} {o : Oper} {a : Act} {Q : Exit → Act → World → Prop} (hw : Region.wanted o (yielded ops a.tmps) = true) (s x : Operand) (t : TypeId)
    (ho : o.op = .call { callee := .builtin .append, args := #[s, x], argTypes := #[t, t] })
    (base : Nat) (e : TypeId) (i : TypeInfo) (z : Value) (sz by' : Nat) (ht : P.underlying t = some (.slice e)) (hi : P.info? e = some i) (hz : i.zero = some z) (hz1 : z.cells.size = sz) (hsz : 0 < sz)
    (hsize : i.size = sz) (hby : i.bytes = by') (hb : by' ≤ 100) (v : Value) (n : Nat) (xs : List Value) (hs : a.eval s = v) (hown : w.ownsRow base e sz v n xs)
    (ad : Option Addr) (m c : Nat) (us : List Value) (hx : a.eval x = .slice ad m c) (hB : ValsAt w ad us) (hm : us.length = m * sz) (hone : ∀ u ∈ us, u.oneCell' = true) (hnil : ad = none → c = 0)
    (hfit : n + m ≤ 1000000000) (hbase : base ≤ w.heap.size)
    (h : ∀ a' cap' w', AppS w w' base e sz v n m xs us a' cap' → wpList P ops Q rest (a.put o.dst (.slice a' (n + m) cap')) w') : wpList P ops Q (o :: rest) a w := by
  refine wpList_step fun K hK => ?_
  rw [if_pos hw]
  obtain ⟨a', cap', w', hr, h2⟩ := run_appS (P := P) base t o.type e i z sz by' ht hi hz hz1 hsz hsize hby hb v n xs hown ad m c us hB hm hone hnil hfit hbase
  unfold Oper.wp execOp
  simp only [ho, resolve, invoke, builtin, Sem.run_bind, Sem.run_pure, Result.andThen_ok, List.map_toArray, List.map_cons, List.map_nil, hs, hx, hr]
  exact hK _ _ (h a' cap' w' h2)

end
end Go.Proofs.YtahhkffghhgojaaDoor
/- A row of the call's own, as it reads. It speaks of no program. -/
namespace Go.Proofs.YtahhkffghhgojaaDoor
open Go.RowKit

/-- A row of the call's own, as it reads. -/
theorem own_vals {w : World} {base : Nat} {e : TypeId} {sz n cap : Nat} {a : Option Addr} {xs : List Value} (h : w.ownsRow base e sz (.slice a n cap) n xs) : ValsAt w a xs := by
  rcases h.2 with ⟨_, hl⟩ | ⟨g, c, cur, hv, _⟩
  · left
    have := h.1
    rw [hl] at this
    exact List.eq_nil_of_length_eq_zero (by omega)
  · simp only [Value.slice.injEq] at hv
    obtain ⟨rfl, _, rfl⟩ := hv
    refine .inr ⟨g, 0, rfl, fun i u hu => ?_⟩
    have hi : i < xs.length := by
      rcases Nat.lt_or_ge i xs.length with h' | h'
      · exact h'
      · rw [List.getElem?_eq_none h'] at hu; cases hu
    rw [Nat.zero_add, World.ownsRow.cellAt h i (by rw [← h.1]; exact hi)]
    exact hu
end Go.Proofs.YtahhkffghhgojaaDoor
/- Lists of sessions (an Id, an end, a life): what they read as, rows of the call's own of them, pieces. They speak of no program. (For stage 7.) -/
namespace Go.Proofs.YtahhkffghhgojaaDoor
open Go.RowKit

/-- A session. -/
structure Sn where
  id : Nat := 0
  ends : Nat := 0
  life : Nat := 0
instance : Inhabited Sn := ⟨{}⟩
def Sn.cells (x : Sn) : List Value := [.int .u64 (x.id : Nat), .int .u64 (x.ends : Nat), .int .u64 (x.life : Nat)]
def Sn.val (x : Sn) : Value := .agg #[.int .u64 (x.id : Nat), .int .u64 (x.ends : Nat), .int .u64 (x.life : Nat)]
def Sn.fits (x : Sn) : Prop := x.id < 18446744073709551616 ∧ x.ends < 18446744073709551616 ∧ x.life < 18446744073709551616
def snc (X : List Sn) : List Value := X.flatMap Sn.cells
theorem snc_append (X Y : List Sn) : snc (X ++ Y) = snc X ++ snc Y := by simp [snc]
theorem snc_cons (x : Sn) (X : List Sn) : snc (x :: X) = x.cells ++ snc X := rfl
theorem snc_length (X : List Sn) : (snc X).length = X.length * 3 := by
  induction X with
  | nil => rfl
  | cons x X ih => rw [snc_cons, List.length_append, ih, List.length_cons]; simp [Sn.cells]; omega
theorem snc_at (X : List Sn) : ∀ i, i < X.length → (snc X)[i * 3]? = some (.int .u64 ((X.getD i default).id : Nat)) ∧ (snc X)[i * 3 + 1]? = some (.int .u64 ((X.getD i default).ends : Nat)) ∧ (snc X)[i * 3 + 2]? = some (.int .u64 ((X.getD i default).life : Nat)) := by
  induction X with
  | nil => intro i hi; simp at hi
  | cons x X ih =>
    intro i hi
    have e : snc (x :: X) = .int .u64 (x.id : Nat) :: .int .u64 (x.ends : Nat) :: .int .u64 (x.life : Nat) :: snc X := rfl
    rw [e]
    rcases i with _ | i
    · exact ⟨rfl, rfl, rfl⟩
    · have := ih i (by simpa using hi)
      have h1 : (i + 1) * 3 = i * 3 + 1 + 1 + 1 := by omega
      rw [h1]
      simpa using this
theorem snc_take (X : List Sn) (n : Nat) : snc (X.take n) = (snc X).take (n * 3) := by
  induction X generalizing n with
  | nil => simp [snc]
  | cons x X ih =>
    rcases n with _ | n
    · simp [snc]
    · rw [List.take_succ_cons, snc_cons, snc_cons, ih, show (n + 1) * 3 = x.cells.length + n * 3 by simp [Sn.cells]; omega, List.take_length_add_append]
theorem snc_drop (X : List Sn) (n : Nat) : snc (X.drop n) = (snc X).drop (n * 3) := by
  induction X generalizing n with
  | nil => simp [snc]
  | cons x X ih =>
    rcases n with _ | n
    · simp [snc]
    · rw [List.drop_succ_cons, snc_cons, ih, show (n + 1) * 3 = x.cells.length + n * 3 by simp [Sn.cells]; omega, ← List.drop_drop, List.drop_left' rfl]
theorem snc_ne {X : List Sn} (h : snc X ≠ []) : X ≠ [] := by rintro rfl; exact h rfl
theorem snc_ne' {X : List Sn} (h : X ≠ []) : snc X ≠ [] := by
  intro e
  have := snc_length X
  rw [e] at this
  have := List.length_pos_iff.2 h
  simp at *; omega

/-- A slice of sessions, as it reads; it lies outside the blocks F. -/
structure SL (w : World) (F : List Nat) (a : Option Addr) (X : List Sn) : Prop where
  vals : ValsAt w a (snc X)
  fits : ∀ x ∈ X, x.fits
  away : X ≠ [] → ∀ q, a = some q → q.block ∉ F
theorem SL.nil (w : World) (F : List Nat) (a : Option Addr) : SL w F a [] := ⟨.inl rfl, by simp, fun h => absurd rfl h⟩
theorem valsAt_lt {w : World} {a : Option Addr} {us : List Value} (h : ValsAt w a us) (hne : us ≠ []) : ∀ q, a = some q → q.block < w.heap.size := by
  intro q hq
  rcases h with h | ⟨b, off, rfl, hc⟩
  · exact absurd h hne
  · cases hq
    cases us with
    | nil => exact absurd rfl hne
    | cons v vs => exact block_lt_of_cell (a := ⟨b, off + 0, none⟩) (hc 0 v rfl)
theorem SL.keep {w w' : World} {F F' S : List Nat} {a : Option Addr} {X : List Sn} (h : SL w F a X) (hf : Frm S w w') (hS : ∀ x ∈ S, x ∈ F ∨ w.heap.size ≤ x) (hF : ∀ x ∈ F', x ∈ F ∨ w.heap.size ≤ x) : SL w' F' a X := by
  refine ⟨h.vals.keep hf (fun hne q hq hm => ?_), h.fits, fun hne q hq hm => ?_⟩
  · rcases hS _ hm with h1 | h1
    · exact h.away (snc_ne hne) q hq h1
    · have := valsAt_lt h.vals hne q hq; omega
  · rcases hF _ hm with h1 | h1
    · exact h.away hne q hq h1
    · have := valsAt_lt h.vals (snc_ne' hne) q hq; omega
theorem SL.at {w : World} {F : List Nat} {a : Option Addr} {X : List Sn} (h : SL w F a X) {i : Nat} (hi : i < X.length) :
    ∃ b off, a = some ⟨b, off, none⟩ ∧ w.cell? ⟨b, off + i * 3, none⟩ = some (.int .u64 ((X.getD i default).id : Nat)) ∧ w.cell? ⟨b, off + i * 3 + 1, none⟩ = some (.int .u64 ((X.getD i default).ends : Nat)) ∧
      w.cell? ⟨b, off + i * 3 + 2, none⟩ = some (.int .u64 ((X.getD i default).life : Nat)) ∧ (X.getD i default).fits := by
  obtain ⟨h0, h1, h2⟩ := snc_at X i hi
  have hm : X.getD i default ∈ X := by simp [hi]
  rcases h.vals with h' | ⟨b, off, rfl, hc⟩
  · rw [h'] at h0; simp at h0
  · exact ⟨b, off, rfl, hc _ _ h0, by rw [Nat.add_assoc]; exact hc _ _ h1, by rw [Nat.add_assoc]; exact hc _ _ h2, h.fits _ hm⟩
theorem SL.take {w : World} {F : List Nat} {a : Option Addr} {X : List Sn} (h : SL w F a X) (n : Nat) : SL w F a (X.take n) := by
  refine ⟨?_, fun x hx => h.fits x (List.mem_of_mem_take hx), fun hne => h.away (by rintro rfl; simp at hne)⟩
  rw [snc_take]
  rcases h.vals with h' | ⟨b, off, rfl, hc⟩
  · exact .inl (by rw [h']; simp)
  · refine .inr ⟨b, off, rfl, fun i u hu => hc i u ?_⟩
    rw [List.getElem?_take] at hu
    split at hu
    · exact hu
    · cases hu
/-- The address of what is left of a slice of elements of three cells each. -/
def cut3 (a : Option Addr) (cap lo : Nat) : Option Addr := if cap = lo then a else a.map (·.add (lo * 3))
theorem SL.drop {w : World} {F : List Nat} {a : Option Addr} {X : List Sn} {cap : Nat} (h : SL w F a X) (hc : X.length ≤ cap) (lo : Nat) : SL w F (cut3 a cap lo) (X.drop lo) := by
  unfold cut3
  by_cases hlo : cap = lo
  · rw [if_pos hlo, List.drop_eq_nil_of_le (by omega)]; exact SL.nil _ _ _
  · rw [if_neg hlo]
    refine ⟨?_, fun x hx => h.fits x (List.mem_of_mem_drop hx), fun hne q hq hm => ?_⟩
    · rw [snc_drop]
      rcases h.vals with h' | ⟨b, off, rfl, hcc⟩
      · exact .inl (by rw [h']; simp)
      · refine .inr ⟨b, off + lo * 3, by simp [addr_add], fun i u hu => ?_⟩
        rw [List.getElem?_drop] at hu
        rw [Nat.add_assoc]
        exact hcc _ _ hu
    · cases a with
      | none => cases hq
      | some y =>
        simp at hq
        subst hq
        exact h.away (by rintro rfl; simp at hne) y rfl (by unfold Addr.add at hm; split at hm <;> exact hm)
/-- A row of the call's own of sessions. -/
structure SOwn (w : World) (base : Nat) (e : TypeId) (F : List Nat) (a : Option Addr) (cap : Nat) (X : List Sn) : Prop where
  own : w.ownsRow base e 3 (.slice a X.length cap) X.length (snc X)
  fits : ∀ x ∈ X, x.fits
  away : ∀ g ∈ blk a, g ∉ F
section
variable {w w' : World} {base : Nat} {e : TypeId} {F F' S : List Nat} {a : Option Addr} {cap : Nat} {X : List Sn}
theorem SOwn.nil (w : World) (base : Nat) (e : TypeId) (F : List Nat) : SOwn w base e F none 0 [] := ⟨World.ownsRow_nil _ _ _ _, by simp, by simp⟩
theorem ownBlk3 {a : Option Addr} {n c g : Nat} : (Value.slice a n c).ownBlock = some g ↔ g ∈ blk a := by cases a <;> simp [Value.ownBlock, eq_comm]
theorem SOwn.blk_lt (h : SOwn w base e F a cap X) : ∀ g ∈ blk a, base ≤ g ∧ g < w.heap.size := fun g hg => World.ownsRow.lt h.own g (ownBlk3.2 hg)
theorem SOwn.keep (h : SOwn w base e F a cap X) (hf : Frm S w w') (hS : ∀ x ∈ S, x ∈ F ∨ w.heap.size ≤ x) (hF : ∀ x ∈ F', x ∈ F ∨ w.heap.size ≤ x) : SOwn w' base e F' a cap X := by
  have hb := h.blk_lt
  refine ⟨hf.own h.own (fun g hg hm => ?_), h.fits, fun g hg hm => ?_⟩
  · rcases hS g hm with h1 | h1
    · exact h.away g (ownBlk3.1 hg) h1
    · have := (hb g (ownBlk3.1 hg)).2; omega
  · rcases hF g hm with h1 | h1
    · exact h.away g hg h1
    · have := (hb g hg).2; omega
theorem SOwn.sl (h : SOwn w base e F a cap X) : SL w F a X := ⟨own_vals h.own, h.fits, fun _ q hq => h.away q.block (by rw [hq]; simp)⟩
theorem SOwn.caps (h : SOwn w base e F a cap X) : X.length ≤ cap ∧ cap ≤ maxLen ∧ (a = none → cap = 0) := by
  rcases h.own.2 with ⟨hv, hl⟩ | ⟨g, c, cur, hv, _, _, h1, h2, _⟩
  · simp only [Value.slice.injEq] at hv
    rw [hl, hv.2.2]; exact ⟨Nat.le_refl _, Nat.zero_le _, fun _ => rfl⟩
  · simp only [Value.slice.injEq] at hv
    obtain ⟨rfl, _, rfl⟩ := hv
    exact ⟨h1, h2, fun h => by cases h⟩
/-- What is appended. -/
theorem SOwn.app {n m : Nat} {Y : List Sn} {a' : Option Addr} {cap' : Nat} (h : SOwn w base e F a cap X) (hn : n = X.length) (k : ∀ y ∈ Y, y.fits) (hm : m = Y.length) (hF : ∀ x ∈ F, x < w.heap.size)
    (ha : AppS w w' base e 3 (.slice a n cap) n m (snc X) (snc Y) a' cap') : SOwn w' base e F a' cap' (X ++ Y) ∧ Frm (blk a) w w' ∧ (∀ g ∈ blk a', g ∈ blk a ∨ w.heap.size ≤ g) ∧ n + m = (X ++ Y).length := by
  subst hn; subst hm
  have hf : Frm (blk a) w w' := (Frm.refl _ _).grown ha.grown (fun g hg => .inl (ownBlk3.1 hg))
  have hp : ∀ g ∈ blk a', g ∈ blk a ∨ w.heap.size ≤ g := by
    intro g hg
    have hg' : (Value.slice a' (X.length + Y.length) cap').ownBlock = some g := ownBlk3.2 hg
    rcases ha.place with h1 | h1
    · exact .inl (ownBlk3.1 (h1 ▸ hg'))
    · rw [hg'] at h1
      cases h1
      exact .inr (Nat.le_refl _)
  refine ⟨⟨?_, fun x hx => (List.mem_append.1 hx).elim (h.fits x) (k x), fun g hg hm => ?_⟩, hf, hp, by simp⟩
  · have := ha.own
    rwa [← snc_append, ← List.length_append] at this
  · rcases hp g hg with h1 | h1
    · exact h.away g h1 hm
    · have := hF g hm; omega
end
section
variable {P : Program} {t e : TypeId}
end
/-- The document's Book in plain words: at most 2^64 - 1; a session's place. -/
def sumU (a b : Nat) : Nat := if a + b < 18446744073709551616 then a + b else 18446744073709551615
def atS (X : List Sn) (id : Nat) : Nat := X.findIdx (fun x => decide (x.id = id))
end Go.Proofs.YtahhkffghhgojaaDoor
/- Rows of Ln: what they read as, rows of the call's own of them, pieces. They speak of no program. -/
namespace Go.Proofs.YtahhkffghhgojaaDoor
open Go.RowKit

/-- One. -/
structure Ln where
  nm : ByteArray := ⟨#[]⟩
  top : Nat := 0
  done : Nat := 0
  l : Nat := 0
  e : Nat := 0
deriving DecidableEq
instance : Inhabited Ln := ⟨{}⟩
def Ln.cells (x : Ln) : List Value := [.string x.nm, .int .u64 (x.top : Nat), .int .u64 (x.done : Nat), .int .u64 (x.l : Nat), .int .u64 (x.e : Nat)]
def Ln.val (x : Ln) : Value := .agg #[.string x.nm, .int .u64 (x.top : Nat), .int .u64 (x.done : Nat), .int .u64 (x.l : Nat), .int .u64 (x.e : Nat)]
def Ln.fits (x : Ln) : Prop := x.top < 18446744073709551616 ∧ x.done < 18446744073709551616 ∧ x.l < 18446744073709551616 ∧ x.e < 18446744073709551616
def lnc (X : List Ln) : List Value := X.flatMap Ln.cells
theorem lnc_append (X Y : List Ln) : lnc (X ++ Y) = lnc X ++ lnc Y := by simp [lnc]
theorem lnc_cons (x : Ln) (X : List Ln) : lnc (x :: X) = x.cells ++ lnc X := rfl
theorem lnc_length (X : List Ln) : (lnc X).length = X.length * 5 := by
  induction X with
  | nil => rfl
  | cons x X ih => rw [lnc_cons, List.length_append, ih, List.length_cons]; simp [Ln.cells]; omega
theorem lnc_one (X : List Ln) : ∀ u ∈ lnc X, u.oneCell' = true := by
  intro u hu
  unfold lnc at hu
  simp only [List.mem_flatMap, Ln.cells] at hu
  obtain ⟨x, _, h⟩ := hu
  simp at h
  rcases h with h | h | h | h | h <;> subst h <;> rfl
theorem lnc_at (X : List Ln) : ∀ i, i < X.length → (lnc X)[i * 5]? = some (.string (X.getD i default).nm) ∧ (lnc X)[i * 5 + 1]? = some (.int .u64 ((X.getD i default).top : Nat)) ∧ (lnc X)[i * 5 + 2]? = some (.int .u64 ((X.getD i default).done : Nat)) ∧ (lnc X)[i * 5 + 3]? = some (.int .u64 ((X.getD i default).l : Nat)) ∧ (lnc X)[i * 5 + 4]? = some (.int .u64 ((X.getD i default).e : Nat)) := by
  induction X with
  | nil => intro i hi; simp at hi
  | cons x X ih =>
    intro i hi
    have e : lnc (x :: X) = .string x.nm :: .int .u64 (x.top : Nat) :: .int .u64 (x.done : Nat) :: .int .u64 (x.l : Nat) :: .int .u64 (x.e : Nat) :: lnc X := rfl
    rw [e]
    rcases i with _ | i
    · exact ⟨rfl, rfl, rfl, rfl, rfl⟩
    · have := ih i (by simpa using hi)
      have h1 : (i + 1) * 5 = i * 5 + 1 + 1 + 1 + 1 + 1 := by omega
      rw [h1]
      simpa using this
theorem lnc_take (X : List Ln) (n : Nat) : lnc (X.take n) = (lnc X).take (n * 5) := by
  induction X generalizing n with
  | nil => simp [lnc]
  | cons x X ih =>
    rcases n with _ | n
    · simp [lnc]
    · rw [List.take_succ_cons, lnc_cons, lnc_cons, ih, show (n + 1) * 5 = x.cells.length + n * 5 by simp [Ln.cells]; omega, List.take_length_add_append]
theorem lnc_drop (X : List Ln) (n : Nat) : lnc (X.drop n) = (lnc X).drop (n * 5) := by
  induction X generalizing n with
  | nil => simp [lnc]
  | cons x X ih =>
    rcases n with _ | n
    · simp [lnc]
    · rw [List.drop_succ_cons, lnc_cons, ih, show (n + 1) * 5 = x.cells.length + n * 5 by simp [Ln.cells]; omega, ← List.drop_drop, List.drop_left' rfl]
theorem lnc_ne {X : List Ln} (h : lnc X ≠ []) : X ≠ [] := by rintro rfl; exact h rfl
theorem lnc_ne' {X : List Ln} (h : X ≠ []) : lnc X ≠ [] := by
  intro e
  have := lnc_length X
  rw [e] at this
  have := List.length_pos_iff.2 h
  simp at *; omega

/-- A slice of sessions, as it reads; it lies outside the blocks F. -/
structure LnL (w : World) (F : List Nat) (a : Option Addr) (X : List Ln) : Prop where
  vals : ValsAt w a (lnc X)
  fits : ∀ x ∈ X, x.fits
  away : X ≠ [] → ∀ q, a = some q → q.block ∉ F
theorem LnL.nil (w : World) (F : List Nat) (a : Option Addr) : LnL w F a [] := ⟨.inl rfl, by simp, fun h => absurd rfl h⟩
theorem LnL.keep {w w' : World} {F F' S : List Nat} {a : Option Addr} {X : List Ln} (h : LnL w F a X) (hf : Frm S w w') (hS : ∀ x ∈ S, x ∈ F ∨ w.heap.size ≤ x) (hF : ∀ x ∈ F', x ∈ F ∨ w.heap.size ≤ x) : LnL w' F' a X := by
  refine ⟨h.vals.keep hf (fun hne q hq hm => ?_), h.fits, fun hne q hq hm => ?_⟩
  · rcases hS _ hm with h1 | h1
    · exact h.away (lnc_ne hne) q hq h1
    · have := valsAt_lt h.vals hne q hq; omega
  · rcases hF _ hm with h1 | h1
    · exact h.away hne q hq h1
    · have := valsAt_lt h.vals (lnc_ne' hne) q hq; omega
theorem LnL.at {w : World} {F : List Nat} {a : Option Addr} {X : List Ln} (h : LnL w F a X) {i : Nat} (hi : i < X.length) :
    ∃ b off, a = some ⟨b, off, none⟩ ∧ w.cell? ⟨b, off + i * 5, none⟩ = some (.string (X.getD i default).nm) ∧ w.cell? ⟨b, off + i * 5 + 1, none⟩ = some (.int .u64 ((X.getD i default).top : Nat)) ∧ w.cell? ⟨b, off + i * 5 + 2, none⟩ = some (.int .u64 ((X.getD i default).done : Nat)) ∧ w.cell? ⟨b, off + i * 5 + 3, none⟩ = some (.int .u64 ((X.getD i default).l : Nat)) ∧ w.cell? ⟨b, off + i * 5 + 4, none⟩ = some (.int .u64 ((X.getD i default).e : Nat)) ∧ (X.getD i default).fits := by
  obtain ⟨h0, h1, h2, h3, h4⟩ := lnc_at X i hi
  have hm : X.getD i default ∈ X := by simp [hi]
  rcases h.vals with h' | ⟨b, off, rfl, hc⟩
  · rw [h'] at h0; simp at h0
  · exact ⟨b, off, rfl, hc _ _ h0, by rw [Nat.add_assoc]; exact hc _ _ h1, by rw [Nat.add_assoc]; exact hc _ _ h2, by rw [Nat.add_assoc]; exact hc _ _ h3, by rw [Nat.add_assoc]; exact hc _ _ h4, h.fits _ hm⟩
theorem LnL.take {w : World} {F : List Nat} {a : Option Addr} {X : List Ln} (h : LnL w F a X) (n : Nat) : LnL w F a (X.take n) := by
  refine ⟨?_, fun x hx => h.fits x (List.mem_of_mem_take hx), fun hne => h.away (by rintro rfl; simp at hne)⟩
  rw [lnc_take]
  rcases h.vals with h' | ⟨b, off, rfl, hc⟩
  · exact .inl (by rw [h']; simp)
  · refine .inr ⟨b, off, rfl, fun i u hu => hc i u ?_⟩
    rw [List.getElem?_take] at hu
    split at hu
    · exact hu
    · cases hu
/-- A row of the call's own of sessions. -/
structure LnOwn (w : World) (base : Nat) (e : TypeId) (F : List Nat) (a : Option Addr) (cap : Nat) (X : List Ln) : Prop where
  own : w.ownsRow base e 5 (.slice a X.length cap) X.length (lnc X)
  fits : ∀ x ∈ X, x.fits
  away : ∀ g ∈ blk a, g ∉ F
section
variable {w w' : World} {base : Nat} {e : TypeId} {F F' S : List Nat} {a : Option Addr} {cap : Nat} {X : List Ln}
theorem LnOwn.nil (w : World) (base : Nat) (e : TypeId) (F : List Nat) : LnOwn w base e F none 0 [] := ⟨World.ownsRow_nil _ _ _ _, by simp, by simp⟩
theorem LnOwn.blk_lt (h : LnOwn w base e F a cap X) : ∀ g ∈ blk a, base ≤ g ∧ g < w.heap.size := fun g hg => World.ownsRow.lt h.own g (ownBlk3.2 hg)
theorem LnOwn.keep (h : LnOwn w base e F a cap X) (hf : Frm S w w') (hS : ∀ x ∈ S, x ∈ F ∨ w.heap.size ≤ x) (hF : ∀ x ∈ F', x ∈ F ∨ w.heap.size ≤ x) : LnOwn w' base e F' a cap X := by
  have hb := h.blk_lt
  refine ⟨hf.own h.own (fun g hg hm => ?_), h.fits, fun g hg hm => ?_⟩
  · rcases hS g hm with h1 | h1
    · exact h.away g (ownBlk3.1 hg) h1
    · have := (hb g (ownBlk3.1 hg)).2; omega
  · rcases hF g hm with h1 | h1
    · exact h.away g hg h1
    · have := (hb g hg).2; omega
theorem LnOwn.sl (h : LnOwn w base e F a cap X) : LnL w F a X := ⟨own_vals h.own, h.fits, fun _ q hq => h.away q.block (by rw [hq]; simp)⟩
theorem LnOwn.caps (h : LnOwn w base e F a cap X) : X.length ≤ cap ∧ cap ≤ maxLen ∧ (a = none → cap = 0) := by
  rcases h.own.2 with ⟨hv, hl⟩ | ⟨g, c, cur, hv, _, _, h1, h2, _⟩
  · simp only [Value.slice.injEq] at hv
    rw [hl, hv.2.2]; exact ⟨Nat.le_refl _, Nat.zero_le _, fun _ => rfl⟩
  · simp only [Value.slice.injEq] at hv
    obtain ⟨rfl, _, rfl⟩ := hv
    exact ⟨h1, h2, fun h => by cases h⟩
/-- What is appended. -/
theorem LnOwn.app {n m : Nat} {Y : List Ln} {a' : Option Addr} {cap' : Nat} (h : LnOwn w base e F a cap X) (hn : n = X.length) (k : ∀ y ∈ Y, y.fits) (hm : m = Y.length) (hF : ∀ x ∈ F, x < w.heap.size)
    (ha : AppS w w' base e 5 (.slice a n cap) n m (lnc X) (lnc Y) a' cap') : LnOwn w' base e F a' cap' (X ++ Y) ∧ Frm (blk a) w w' ∧ (∀ g ∈ blk a', g ∈ blk a ∨ w.heap.size ≤ g) ∧ n + m = (X ++ Y).length := by
  subst hn; subst hm
  have hf : Frm (blk a) w w' := (Frm.refl _ _).grown ha.grown (fun g hg => .inl (ownBlk3.1 hg))
  have hp : ∀ g ∈ blk a', g ∈ blk a ∨ w.heap.size ≤ g := by
    intro g hg
    have hg' : (Value.slice a' (X.length + Y.length) cap').ownBlock = some g := ownBlk3.2 hg
    rcases ha.place with h1 | h1
    · exact .inl (ownBlk3.1 (h1 ▸ hg'))
    · rw [hg'] at h1
      cases h1
      exact .inr (Nat.le_refl _)
  refine ⟨⟨?_, fun x hx => (List.mem_append.1 hx).elim (h.fits x) (k x), fun g hg hm => ?_⟩, hf, hp, by simp⟩
  · have := ha.own
    rwa [← lnc_append, ← List.length_append] at this
  · rcases hp g hg with h1 | h1
    · exact h.away g h1 hm
    · have := hF g hm; omega
end
theorem LnL.sub {w : World} {F : List Nat} {a : Option Addr} {X : List Ln} (h : LnL w F a X) {w' : World} (hf : Frm [] w w') : LnL w' F a X := h.keep hf (by simp) (fun x hx => .inl hx)
theorem lncvals_one (w : World) (x : Ln) (t : TypeId) : ValsAt (w.alloc (.cells #[.string x.nm, .int .u64 (x.top : Nat), .int .u64 (x.done : Nat), .int .u64 (x.l : Nat), .int .u64 (x.e : Nat)] t)) (some ⟨w.heap.size, 0, none⟩) (lnc [x]) := by
  refine .inr ⟨_, _, rfl, fun i u hu => ?_⟩
  rw [(Whole.made w t _).cell, Nat.zero_add]
  simp only [lnc, List.flatMap_cons, List.flatMap_nil, List.append_nil, Ln.cells] at hu
  rw [← hu]
  simp
end Go.Proofs.YtahhkffghhgojaaDoor
/- Texts: in order, as Go compares them; what begins them. It speaks of no program. -/
namespace Go.Proofs.YtahhkffghhgojaaDoor
open Go.RowKit
set_option maxRecDepth 100000

/-- Texts as the walk compares them. -/
theorem txt_ne {s t : ByteArray} (h : ¬ s = t) : (s.toList == t.toList) = false := by
  rw [beq_eq_false_iff_ne, ByteArray.toList_eq, ByteArray.toList_eq]
  intro e
  exact h (ByteArray.ext (Array.toList_inj.1 e))
theorem txt_eq {s t : ByteArray} : (s.toList == t.toList) = decide (s = t) := by
  by_cases h : s = t
  · subst h; simp
  · rw [txt_ne h]; simp [h]
/-- Texts in order, as Go compares them. -/
def kl (a b : ByteArray) : Bool := Op.bytesLess a.toList b.toList
theorem less_irr : ∀ a : List UInt8, Op.bytesLess a a = false
  | [] => rfl
  | x :: a => by simp [Op.bytesLess, less_irr a]
theorem less_cons (x y : UInt8) (a b : List UInt8) : Op.bytesLess (x :: a) (y :: b) = true ↔ x < y ∨ (x = y ∧ Op.bytesLess a b = true) := by simp [Op.bytesLess]
theorem less_trans : ∀ a b c : List UInt8, Op.bytesLess a b = true → Op.bytesLess b c = true → Op.bytesLess a c = true
  | [], [], c, h, _ => by simp [Op.bytesLess] at h
  | _ :: _, [], c, h, _ => by simp [Op.bytesLess] at h
  | _, _ :: _, [], _, h => by simp [Op.bytesLess] at h
  | [], _ :: _, _ :: _, _, _ => rfl
  | x :: a, y :: b, z :: c, h, k => by
    rw [less_cons] at h k ⊢
    rcases h with h | ⟨rfl, h⟩
    · rcases k with k | ⟨rfl, k⟩
      · exact .inl (UInt8.lt_trans h k)
      · exact .inl h
    · rcases k with k | ⟨rfl, k⟩
      · exact .inl k
      · exact .inr ⟨rfl, less_trans a b c h k⟩
theorem less_tot : ∀ a b : List UInt8, Op.bytesLess a b = false → Op.bytesLess b a = false → a = b
  | [], [], _, _ => rfl
  | [], _ :: _, h, _ => by simp [Op.bytesLess] at h
  | _ :: _, [], _, h => by simp [Op.bytesLess] at h
  | x :: a, y :: b, h, k => by
    have h' : ¬ (x < y ∨ (x = y ∧ Op.bytesLess a b = true)) := by rw [← less_cons, h]; simp
    have k' : ¬ (y < x ∨ (y = x ∧ Op.bytesLess b a = true)) := by rw [← less_cons, k]; simp
    have e : x = y := by
      rcases UInt8.lt_or_eq_of_le (UInt8.not_lt.1 (fun h => h' (.inl h))) with h1 | h1
      · exact absurd (.inl h1) k'
      · exact h1.symm
    subst e
    rw [less_tot a b (by simpa using fun h => h' (.inr ⟨rfl, h⟩)) (by simpa using fun h => k' (.inr ⟨rfl, h⟩))]
theorem cmp_lt : ∀ a b : List UInt8, decide (Lib.compareBytes a b < 0) = Op.bytesLess a b
  | [], [] => rfl
  | [], _ :: _ => rfl
  | _ :: _, [] => rfl
  | x :: a, y :: b => by
    unfold Lib.compareBytes Op.bytesLess
    by_cases h : x < y
    · simp [h]
    · by_cases k : y < x
      · have : ¬ x = y := by rintro rfl; exact absurd k (UInt8.lt_irrefl _)
        simp [h, k, this]
      · have e : x = y := UInt8.le_antisymm (UInt8.not_lt.1 k) (UInt8.not_lt.1 h)
        subst e
        simp [UInt8.lt_irrefl, cmp_lt a b]
theorem kl_irr (a : ByteArray) : kl a a = false := less_irr _
theorem kl_trans {a b c : ByteArray} (h : kl a b = true) (k : kl b c = true) : kl a c = true := less_trans _ _ _ h k
theorem ba_eq {a b : ByteArray} (h : a.toList = b.toList) : a = b := by
  rw [ByteArray.toList_eq, ByteArray.toList_eq] at h
  exact ByteArray.ext (Array.toList_inj.1 h)
theorem kl_tot {a b : ByteArray} (h : kl a b = false) (k : kl b a = false) : a = b := ba_eq (less_tot _ _ h k)
theorem kl_ne {a b : ByteArray} (h : kl a b = true) : a ≠ b := by rintro rfl; rw [kl_irr] at h; cases h
theorem kl_asym {a b : ByteArray} (h : kl a b = true) : kl b a = false := by
  cases e : kl b a with
  | false => rfl
  | true => have := kl_trans h e; rw [kl_irr] at this; cases this
/-- Does a text begin so? -/
def pfx (P K : ByteArray) : Bool := Lib.hasPrefix K.data.toList P.data.toList
theorem kl_data (a b : ByteArray) : kl a b = Op.bytesLess a.data.toList b.data.toList := by unfold kl; rw [Lib.toList_data, Lib.toList_data]
end Go.Proofs.YtahhkffghhgojaaDoor
/- Pieces of slices of lines; where a name stands; stores into a line. They speak of no program but in run_*. -/
namespace Go.Proofs.YtahhkffghhgojaaDoor
open Go.RowKit
set_option maxRecDepth 100000

/-- The address of what is left of a slice of elements of five cells each. -/
def cut5 (a : Option Addr) (cap lo : Nat) : Option Addr := if cap = lo then a else a.map (·.add (lo * 5))
theorem LnL.drop {w : World} {F : List Nat} {a : Option Addr} {X : List Ln} {cap : Nat} (h : LnL w F a X) (hc : X.length ≤ cap) (lo : Nat) : LnL w F (cut5 a cap lo) (X.drop lo) := by
  unfold cut5
  by_cases hlo : cap = lo
  · rw [if_pos hlo, List.drop_eq_nil_of_le (by omega)]; exact LnL.nil _ _ _
  · rw [if_neg hlo]
    refine ⟨?_, fun x hx => h.fits x (List.mem_of_mem_drop hx), fun hne q hq hm => ?_⟩
    · rw [lnc_drop]
      rcases h.vals with h' | ⟨b, off, rfl, hcc⟩
      · exact .inl (by rw [h']; simp)
      · refine .inr ⟨b, off + lo * 5, by simp [addr_add], fun i u hu => ?_⟩
        rw [List.getElem?_drop] at hu
        rw [Nat.add_assoc]
        exact hcc _ _ hu
    · cases a with
      | none => cases hq
      | some y =>
        simp at hq
        subst hq
        exact h.away (by rintro rfl; simp at hne) y rfl (by unfold Addr.add at hm; split at hm <;> exact hm)

section
variable {P : Program} {t e : TypeId}
/-- 'x[lo:]' of elements of five cells. -/
theorem run_cut5 (ht : P.underlying t = some (.slice e)) (hz : ∀ w, (Go.sizeOf e).run P w = .ok 5 w) (w : World) (a : Option Addr) (n cap lo : Nat) (l : Int) (hl : l = (lo : Nat)) (h1 : lo ≤ n) :
    (Instr.slice t (.slice a n cap) (some (.int .i64 l)) none none).run P w = .ok (.slice (cut5 a cap lo) (n - lo) (cap - lo)) w := by
  subst hl
  have ht' : P.underlying t = some (.slice (P.elem t)) := by simp [Program.elem, ht]
  have he : P.elem t = e := by simp [Program.elem, ht]
  rw [run_slice_l w t _ _ _ ht' .i64 _ (by omega) (by omega), he, hz]
  simp [Result.andThen, sliced, cut5]
theorem run_head5 (ht : P.underlying t = some (.slice e)) (hz : ∀ w, (Go.sizeOf e).run P w = .ok 5 w) (w : World) (a : Option Addr) (n cap hi : Nat) (h2 : hi ≤ cap) :
    (Instr.slice t (.slice a n cap) none (some (.int .i64 (hi : Nat))) none).run P w = .ok (.slice a hi cap) w := by
  have ht' : P.underlying t = some (.slice (P.elem t)) := by simp [Program.elem, ht]
  have he : P.elem t = e := by simp [Program.elem, ht]
  rw [run_slice_h w t _ _ _ ht' .i64 _ (by omega) (by omega), he, hz]
  have := head_map a
  simp [Result.andThen, sliced, this]
end

/-- A name's line; how many lines there are, if it has none. -/
def atL (X : List Ln) (s : ByteArray) : Nat := X.findIdx (fun x => decide (x.nm = s))
theorem atL_le (X : List Ln) (s : ByteArray) : atL X s ≤ X.length := List.findIdx_le_length
theorem ln_get {X : List Ln} {i : Nat} (h : i < X.length) : X.getD i default = X[i] := by simp [h]
theorem atL_key {X : List Ln} {s : ByteArray} (h : atL X s < X.length) : (X.getD (atL X s) default).nm = s := by
  have h1 := List.findIdx_getElem (p := fun x : Ln => decide (x.nm = s)) (w := h)
  rw [ln_get h]
  exact of_decide_eq_true h1
def atLI (X : List Ln) (s : ByteArray) : Int := if atL X s < X.length then ((atL X s : Nat) : Int) else -1
/-- A line with another Top; with another Done, At. -/
def Ln.wtop (x : Ln) (v : Nat) : Ln := ⟨x.nm, v, x.done, x.l, x.e⟩
def Ln.wdone (x : Ln) (d l e : Nat) : Ln := ⟨x.nm, x.top, d, l, e⟩
end Go.Proofs.YtahhkffghhgojaaDoor
/- What the table's calls answer and leave, over lists of lines. It speaks of no program. -/
namespace Go.Proofs.YtahhkffghhgojaaDoor
open Go.RowKit
set_option maxRecDepth 100000

/-- Begin's code, and the lines behind it. -/
def begC (X : List Ln) (s : ByteArray) (q : Nat) : Nat :=
  if s.size < 1 ∨ 64 < s.size then 10 else if q = 0 then 2 else
  if atL X s < X.length then (if q ≤ (X.getD (atL X s) default).done then 40 else if q ≤ (X.getD (atL X s) default).top then 41 else 0)
  else if X.length = 16 then 14 else 0
def begX (X : List Ln) (s : ByteArray) (q : Nat) : List Ln :=
  if begC X s q = 0 then (if atL X s < X.length then X.set (atL X s) ((X.getD (atL X s) default).wtop q) else X ++ [⟨s, q, 0, 0, 0⟩]) else X
/-- Done's. -/
def donC (X : List Ln) (s : ByteArray) (q : Nat) : Nat :=
  if atL X s < X.length then (if (X.getD (atL X s) default).top < q then 11 else if q ≤ (X.getD (atL X s) default).done then 40 else 0) else 11
def donX (X : List Ln) (s : ByteArray) (q l e : Nat) : List Ln :=
  if donC X s q = 0 then X.set (atL X s) ((X.getD (atL X s) default).wdone q l e) else X
/-- Forget's. -/
def forX (X : List Ln) : List Ln := (X.filter fun x => decide (0 < x.done)).map fun x => x.wtop x.done
theorem forX_len (X : List Ln) : (forX X).length ≤ X.length := by
  unfold forX; rw [List.length_map]; exact List.length_filter_le _ _
/-- Where a line comes among others, by its name. -/
def posL (Y : List Ln) (K : ByteArray) : Nat := Y.findIdx (fun y => !kl y.nm K)
theorem posL_le (Y : List Ln) (K : ByteArray) : posL Y K ≤ Y.length := List.findIdx_le_length
theorem posL_before {Y : List Ln} {K : ByteArray} {j : Nat} (h : j < posL Y K) : kl (Y.getD j default).nm K = true := by
  have hj : j < Y.length := Nat.lt_of_lt_of_le h (posL_le Y K)
  have := List.not_of_lt_findIdx h
  rw [ln_get hj]
  simpa using this
theorem posL_at {Y : List Ln} {K : ByteArray} (h : posL Y K < Y.length) : kl (Y.getD (posL Y K) default).nm K = false := by
  have h1 := List.findIdx_getElem (p := fun y : Ln => !kl y.nm K) (w := h)
  rw [ln_get h]
  have h2 : (!kl Y[posL Y K].nm K) = true := h1
  simpa using h2
def insL (x : Ln) (Y : List Ln) : List Ln := Y.take (posL Y x.nm) ++ ([x] ++ Y.drop (posL Y x.nm))
/-- All lines, by their names. -/
def allX (X : List Ln) : List Ln := X.foldl (fun Y x => insL x Y) []
end Go.Proofs.YtahhkffghhgojaaDoor
/- What taking a table of bytes answers, as functions of the bytes (V: which bytes are texts). They speak of no program. -/
namespace Go.Proofs.YtahhkffghhgojaaDoor
open Go.RowKit
set_option maxRecDepth 100000

/-- A number of k bytes; a text: what it is and what is left, or the fault. -/
def pN (k : Nat) (l : List Nat) : (Nat × List Nat) ⊕ Nat := if l.length < k then .inr 4 else .inl (val (l.take k), l.drop k)
def pT (V : List Nat → Bool) (l : List Nat) : (ByteArray × List Nat) ⊕ Nat :=
  if l.length < 4 ∨ l.length - 4 < val (l.take 4) then .inr 4 else
  if V ((l.drop 4).take (val (l.take 4))) = true then .inl (strOf ((l.drop 4).take (val (l.take 4))), l.drop (4 + val (l.take 4))) else .inr 6
def thn {α β : Type} (x : (α × List Nat) ⊕ Nat) (f : α → List Nat → (β × List Nat) ⊕ Nat) : (β × List Nat) ⊕ Nat :=
  match x with
  | .inr c => .inr c
  | .inl (a, l) => f a l
/-- A line. -/
def pLn (V : List Nat → Bool) (l : List Nat) : (Ln × List Nat) ⊕ Nat :=
  thn (pT V l) fun s l1 => thn (pN 8 l1) fun d l2 => thn (pN 8 l2) fun a l3 => thn (pN 8 l3) fun e l4 => .inl (⟨s, d, d, a, e⟩, l4)
/-- Is a line that was taken whole not to stand behind these? -/
def badL (out : List Ln) (x : Ln) : Bool :=
  decide (x.nm.size = 0) || decide (64 < x.nm.size) || decide (x.done = 0) || decide (out.length = 16) || (decide (0 < out.length) && !kl (out.getD (out.length - 1) default).nm x.nm)
def pLns (V : List Nat → Bool) : Nat → List Ln → List Nat → (List Ln × List Nat) ⊕ Nat
  | 0, out, l => .inl (out, l)
  | n + 1, out, l => thn (pLn V l) fun x l1 => if badL out x = true then .inr 23 else pLns V n (out ++ [x]) l1
def pTb (V : List Nat → Bool) (l : List Nat) : (List Ln × List Nat) ⊕ Nat := thn (pN 1 l) fun n l1 => pLns V n [] l1
/-- Bytes that are a table and nothing more. -/
def endTb (V : List Nat → Bool) (l : List Nat) : List Ln ⊕ Nat :=
  match pTb V l with
  | .inr c => .inr c
  | .inl (out, l1) => if l1 = [] then .inl out else .inr 5
theorem pN_ne {k : Nat} {l : List Nat} {c : Nat} (h : pN k l = .inr c) : c = 4 := by
  unfold pN at h
  split at h
  · simpa using h.symm
  · cases h
theorem pT_ne {V : List Nat → Bool} {l : List Nat} {c : Nat} (h : pT V l = .inr c) : c = 4 ∨ c = 6 := by
  unfold pT at h
  split at h
  · left; simpa using h.symm
  · split at h
    · cases h
    · right; simpa using h.symm
theorem thn_ne {α β : Type} {x : (α × List Nat) ⊕ Nat} {f : α → List Nat → (β × List Nat) ⊕ Nat} {c : Nat} {P : Nat → Prop} (h : thn x f = .inr c) (h1 : ∀ d, x = .inr d → P d) (h2 : ∀ a l, x = .inl (a, l) → ∀ d, f a l = .inr d → P d) : P c := by
  unfold thn at h
  rcases x with ⟨a, l⟩ | d
  · exact h2 a l rfl c h
  · simp at h; subst h; exact h1 d rfl
theorem pLn_ne {V : List Nat → Bool} {l : List Nat} {c : Nat} (h : pLn V l = .inr c) : c = 4 ∨ c = 6 := by
  unfold pLn at h
  refine thn_ne (P := fun c => c = 4 ∨ c = 6) h (fun d hd => pT_ne hd) (fun s l1 _ d hd => ?_)
  refine thn_ne (P := fun c => c = 4 ∨ c = 6) hd (fun d hd => .inl (pN_ne hd)) (fun s l1 _ d hd => ?_)
  refine thn_ne (P := fun c => c = 4 ∨ c = 6) hd (fun d hd => .inl (pN_ne hd)) (fun s l1 _ d hd => ?_)
  refine thn_ne (P := fun c => c = 4 ∨ c = 6) hd (fun d hd => .inl (pN_ne hd)) (fun s l1 _ d hd => ?_)
  cases hd
theorem pLns_ne {V : List Nat → Bool} : ∀ {n : Nat} {out : List Ln} {l : List Nat} {c : Nat}, pLns V n out l = .inr c → c = 4 ∨ c = 6 ∨ c = 23 := by
  intro n
  induction n with
  | zero => intro out l c h; cases h
  | succ n ih =>
    intro out l c h
    refine thn_ne (P := fun c => c = 4 ∨ c = 6 ∨ c = 23) h (fun d hd => (pLn_ne hd).elim .inl (fun h => .inr (.inl h))) (fun x l1 _ d hd => ?_)
    split at hd
    · simp at hd; exact .inr (.inr hd.symm)
    · exact ih hd
theorem pTb_ne {V : List Nat → Bool} {l : List Nat} {c : Nat} (h : pTb V l = .inr c) : c ≠ 0 := by
  refine thn_ne (P := fun c => c ≠ 0) h (fun d hd => by rw [pN_ne hd]; decide) (fun n l1 _ d hd => ?_)
  rcases pLns_ne hd with rfl | rfl | rfl <;> decide
theorem pN_left {k : Nat} {l l' : List Nat} {n : Nat} (h : pN k l = .inl (n, l')) : l'.length + k = l.length ∧ n = val (l.take k) := by
  unfold pN at h
  split at h
  · cases h
  · simp only [Sum.inl.injEq, Prod.mk.injEq] at h
    obtain ⟨rfl, rfl⟩ := h
    simp; omega
theorem pT_len {V : List Nat → Bool} {l l' : List Nat} {s : ByteArray} (h : pT V l = .inl (s, l')) : l'.length ≤ l.length := by
  unfold pT at h
  split at h
  · cases h
  · split at h
    · simp only [Sum.inl.injEq, Prod.mk.injEq] at h
      rw [← h.2]; simp
    · cases h
theorem pN_len {k : Nat} {l l' : List Nat} {n : Nat} (h : pN k l = .inl (n, l')) : l'.length ≤ l.length := by have := (pN_left h).1; omega
/-- A number that is taken behind whatever: what it is, and what is left or the fault. -/
def nxN (k : Nat) (x : List Nat ⊕ Nat) : Nat × (List Nat ⊕ Nat) :=
  match x with
  | .inr c => (0, .inr c)
  | .inl l => match pN k l with
    | .inr c => (0, .inr c)
    | .inl (n, l') => (n, .inl l')
def NxT (V : List Nat → Bool) (x : List Nat ⊕ Nat) (s : ByteArray) (x' : List Nat ⊕ Nat) : Prop :=
  (∃ l l', x = .inl l ∧ pT V l = .inl (s, l') ∧ x' = .inl l') ∨ (∃ l c, x = .inl l ∧ pT V l = .inr c ∧ x' = .inr c)
/-- A line that is taken, piece by piece. -/
def LnR (V : List Nat → Bool) (l : List Nat) (X : Ln) (x' : List Nat ⊕ Nat) : Prop :=
  (∃ l', x' = .inl l' ∧ pLn V l = .inl (X, l') ∧ l'.length ≤ l.length) ∨ (∃ c, x' = .inr c ∧ pLn V l = .inr c)
theorem nxN_inr (k c : Nat) : nxN k (.inr c) = (0, .inr c) := rfl
theorem lnR_of {V : List Nat → Bool} {l : List Nat} {s : ByteArray} {x1 : List Nat ⊕ Nat} (h : NxT V (.inl l) s x1) :
    LnR V l ⟨s, (nxN 8 x1).1, (nxN 8 x1).1, (nxN 8 (nxN 8 x1).2).1, (nxN 8 (nxN 8 (nxN 8 x1).2).2).1⟩ (nxN 8 (nxN 8 (nxN 8 x1).2).2).2 := by
  rcases h with ⟨l0, l1, e, h, rfl⟩ | ⟨l0, c, e, h, rfl⟩
  · cases e
    have e0 := pT_len h
    rcases h1 : pN 8 l1 with ⟨d, l2⟩ | c
    · have e1 := pN_len h1
      have n1 : nxN 8 (.inl l1) = (d, .inl l2) := by unfold nxN; simp only [h1]
      rw [n1]
      rcases h2 : pN 8 l2 with ⟨a, l3⟩ | c
      · have e2 := pN_len h2
        have n2 : nxN 8 (.inl l2) = (a, .inl l3) := by unfold nxN; simp only [h2]
        simp only [n2]
        rcases h3 : pN 8 l3 with ⟨f, l4⟩ | c
        · have e3 := pN_len h3
          have n3 : nxN 8 (.inl l3) = (f, .inl l4) := by unfold nxN; simp only [h3]
          simp only [n3]
          refine .inl ⟨l4, rfl, ?_, by omega⟩
          unfold pLn thn
          simp only [h, h1, h2, h3]
        · have n3 : nxN 8 (.inl l3) = (0, .inr c) := by unfold nxN; simp only [h3]
          simp only [n3]
          refine .inr ⟨c, rfl, ?_⟩
          unfold pLn thn
          simp only [h, h1, h2, h3]
      · have n2 : nxN 8 (.inl l2) = (0, .inr c) := by unfold nxN; simp only [h2]
        simp only [n2, nxN_inr]
        refine .inr ⟨c, rfl, ?_⟩
        unfold pLn thn
        simp only [h, h1, h2]
    · have n1 : nxN 8 (.inl l1) = (0, .inr c) := by unfold nxN; simp only [h1]
      simp only [n1, nxN_inr]
      refine .inr ⟨c, rfl, ?_⟩
      unfold pLn thn
      simp only [h, h1]
  · cases e
    simp only [nxN_inr]
    refine .inr ⟨c, rfl, ?_⟩
    unfold pLn thn
    simp only [h]
/-- Fail: a fault, if there was none. -/
def nxF (k : Nat) (x : List Nat ⊕ Nat) : List Nat ⊕ Nat := match x with
  | .inr c => .inr c
  | .inl _ => .inr k
/-- End: the fault, or that something is left. -/
def endN (x : List Nat ⊕ Nat) : Nat := match x with
  | .inr c => c
  | .inl l => if l = [] then 0 else 5
/-- In the midst of taking lines: what all comes to is R. -/
def LnsAt (V : List Nat → Bool) (m : Nat) (out : List Ln) (x : List Nat ⊕ Nat) (R : (List Ln × List Nat) ⊕ Nat) : Prop :=
  (∃ l, x = .inl l ∧ R = pLns V m out l ∧ l.length ≤ 100000) ∨ (∃ c, x = .inr c ∧ R = .inr c)
theorem pLns_succ (V : List Nat → Bool) (n : Nat) (out : List Ln) (l : List Nat) : pLns V (n + 1) out l = thn (pLn V l) fun x l1 => if badL out x = true then .inr 23 else pLns V n (out ++ [x]) l1 := rfl
theorem LnsAt.good {V : List Nat → Bool} {m : Nat} {out : List Ln} {l : List Nat} {X : Ln} {x' : List Nat ⊕ Nat} {R : (List Ln × List Nat) ⊕ Nat} (h : R = pLns V (m + 1) out l) (hl : l.length ≤ 100000) (r : LnR V l X x') (hb : badL out X = false) : LnsAt V m (out ++ [X]) x' R := by
  rcases r with ⟨l', rfl, h1, h2⟩ | ⟨c, rfl, h1⟩
  · refine .inl ⟨l', rfl, ?_, by omega⟩
    rw [h, pLns_succ]
    unfold thn
    simp [h1, hb]
  · refine .inr ⟨c, rfl, ?_⟩
    rw [h, pLns_succ]
    unfold thn
    simp [h1]
theorem LnsAt.bad {V : List Nat → Bool} {m : Nat} {out out' : List Ln} {l : List Nat} {X : Ln} {x' : List Nat ⊕ Nat} {R : (List Ln × List Nat) ⊕ Nat} (h : R = pLns V (m + 1) out l) (r : LnR V l X x') (hb : badL out X = true) : LnsAt V m out' (nxF 23 x') R := by
  rcases r with ⟨l', rfl, h1, h2⟩ | ⟨c, rfl, h1⟩
  · refine .inr ⟨23, rfl, ?_⟩
    rw [h, pLns_succ]
    unfold thn
    simp [h1, hb]
  · refine .inr ⟨c, rfl, ?_⟩
    rw [h, pLns_succ]
    unfold thn
    simp [h1]
end Go.Proofs.YtahhkffghhgojaaDoor
/- (For a door seat.) The document's Reader, faulty or not: Number, Text, Fail, End. -/
namespace Go.Proofs.YtahhkffghhgojaaDoor
open Go.RowKit
set_option maxRecDepth 100000

/-- The reader has so many bytes left, or a fault. -/
def StQ (w : World) (qb B : Nat) (x : List Nat ⊕ Nat) : Prop := (∃ l, x = .inl l ∧ RQ w qb l B) ∨ (∃ c : Nat, x = .inr c ∧ c ≠ 0 ∧ RFault w qb (c : Nat))
theorem StQ.keep {w w' : World} {qb B : Nat} {x : List Nat ⊕ Nat} {S : List Nat} (h : StQ w qb B x) (hf : Frm S w w') (hq : qb ∉ S) (hB : ∀ x ∈ S, B ≤ x) : StQ w' qb B x := by
  rcases h with ⟨l, e, h⟩ | ⟨c, e, h0, h⟩
  · exact .inl ⟨l, e, h.keep hf hq hB⟩
  · exact .inr ⟨c, e, h0, h.keep hf hq⟩
theorem StQ.code {w : World} {qb B : Nat} {x : List Nat ⊕ Nat} (h : StQ w qb B x) : ∃ c : Nat, w.cell? ⟨qb, 1, none⟩ = some (.int .i64 (c : Nat)) ∧ (c = 0 ↔ ∃ l, x = .inl l) := by
  rcases h with ⟨l, e, a, cap, h, _⟩ | ⟨c, e, h0, v, h⟩
  · have := h.whole.cell 1
    simp at this
    exact ⟨0, this, by simp [e]⟩
  · have := h.cell 1
    simp at this
    exact ⟨c, this, by simp [e, h0]⟩
theorem rqnum_fault {w : World} {qb c : Nat} (k : Nat) (h : RFault w qb (c : Nat)) (hc : c ≠ 0) :
    Calls Tryd.prog 27 #[.pointer (some ⟨qb, 0, none⟩), .int .i64 k] w (fun e w' => e = .returned (.int .u64 0) ∧ w' = w) := by
  obtain ⟨v, h⟩ := h
  have c1 := h.cell 1
  simp at c1
  have hne : ((c : Int) == 0) = false := by simp; omega
  have hne2 : ((c : Int) != 0) = true := by simp; omega
  clear h hc
  go_enter Tryd.func27, Tryd.ntmps27
  go_wp2
  go_ret
  exact ⟨rfl, rfl⟩
theorem stq_num {w : World} {qb B : Nat} {x : List Nat ⊕ Nat} (k : Nat) (i : Int) (hi : i = (k : Nat)) (h : StQ w qb B x) (hk8 : k ≤ 8) :
    Calls Tryd.prog 27 #[.pointer (some ⟨qb, 0, none⟩), .int .i64 i] w (fun e w' => e = .returned (.int .u64 ((nxN k x).1 : Nat)) ∧ StQ w' qb B (nxN k x).2 ∧ Frm [qb] w w' ∧ (nxN k x).1 < 256 ^ k) := by
  subst hi
  rcases h with ⟨l, rfl, h⟩ | ⟨c, rfl, h0, h⟩
  · by_cases hl : l.length < k
    · refine (rqnum_short k h hl).mono ?_
      rintro e w' ⟨rfl, h1, h2⟩
      have e1 : nxN k (.inl l) = (0, .inr 4) := by unfold nxN pN; simp [hl]
      rw [e1]
      exact ⟨rfl, .inr ⟨4, rfl, by decide, h1⟩, h2, Nat.pow_pos (by decide)⟩
    · have hb := h.h8
      refine (rqnum_ok k h (by omega) hk8).mono ?_
      rintro e w' ⟨rfl, h1, h2⟩
      have e1 : nxN k (.inl l) = (val (l.take k), .inl (l.drop k)) := by unfold nxN pN; simp [hl]
      rw [e1]
      refine ⟨rfl, .inl ⟨_, rfl, h1⟩, h2, ?_⟩
      have h3 := val_lt (l.take k) (fun c hc => hb c (List.mem_of_mem_take hc))
      rw [List.length_take, Nat.min_eq_left (by omega)] at h3
      exact h3
  · refine (rqnum_fault k h h0).mono ?_
    rintro e w' ⟨rfl, rfl⟩
    exact ⟨rfl, .inr ⟨c, rfl, h0, h⟩, Frm.refl _ _, Nat.pow_pos (by decide)⟩
theorem stq_text {V : List Nat → Bool} (hV : VOk V) {w : World} {qb B : Nat} {l : List Nat} (h : RQ w qb l B) (hT : Tabs w) (hB : 2 ≤ B) (hqB : B ≤ qb) (hfit : l.length ≤ 100000) :
    Calls Tryd.prog 28 #[.pointer (some ⟨qb, 0, none⟩)] w (fun e w' => ∃ s x', e = .returned (.string s) ∧ NxT V (.inl l) s x' ∧ StQ w' qb B x' ∧ Frm [qb] w w') := by
  by_cases h1 : l.length < 4
  · refine (rqtext_none (rqbytes_short h h1)).mono ?_
    rintro e w' ⟨s, rfl, h2, h3⟩
    exact ⟨s, .inr 4, rfl, .inr ⟨l, 4, rfl, by unfold pT; rw [if_pos (.inl h1)], rfl⟩, .inr ⟨4, rfl, by decide, h2⟩, h3⟩
  · by_cases h2 : l.length - 4 < val (l.take 4)
    · refine (rqtext_none (rqbytes_less h (by omega) h2)).mono ?_
      rintro e w' ⟨s, rfl, h3, h4⟩
      exact ⟨s, .inr 4, rfl, .inr ⟨l, 4, rfl, by unfold pT; rw [if_pos (.inr h2)], rfl⟩, .inr ⟨4, rfl, by decide, h3⟩, h4⟩
    · have hno : ¬ (l.length < 4 ∨ l.length - 4 < val (l.take 4)) := by omega
      refine (rqtext_some hV h hT hB hqB (by omega) (val (l.take 4)) rfl (by omega) hfit).mono ?_
      rintro e w' (⟨hv, rfl, h3, h4⟩ | ⟨hv, s, rfl, h3, h4⟩)
      · exact ⟨_, .inl _, rfl, .inl ⟨l, _, rfl, by unfold pT; rw [if_neg hno, if_pos hv], rfl⟩, .inl ⟨_, rfl, h3⟩, h4⟩
      · exact ⟨s, .inr 6, rfl, .inr ⟨l, 6, rfl, by unfold pT; rw [if_neg hno, if_neg (by rw [hv]; simp)], rfl⟩, .inr ⟨6, rfl, by decide, h3⟩, h4⟩
theorem rqfail_fault {w : World} {qb c : Nat} (k : Int) (h : RFault w qb (c : Nat)) (hc : c ≠ 0) :
    Calls Tryd.prog 29 #[.pointer (some ⟨qb, 0, none⟩), .int .i64 k] w (fun e w' => e = .returned (.tuple #[]) ∧ w' = w) := by
  obtain ⟨v, h⟩ := h
  have c1 := h.cell 1
  simp at c1
  have hne : ((c : Int) == 0) = false := by simp; omega
  clear h hc
  go_enter Tryd.func29, Tryd.ntmps29
  go_wp2
  go_end0
  exact ⟨rfl, rfl⟩
theorem stq_fail {w : World} {qb B : Nat} {x : List Nat ⊕ Nat} (k : Nat) (i : Int) (hi : i = (k : Nat)) (h : StQ w qb B x) (hk : k ≠ 0) :
    Calls Tryd.prog 29 #[.pointer (some ⟨qb, 0, none⟩), .int .i64 i] w (fun e w' => e = .returned (.tuple #[]) ∧ StQ w' qb B (nxF k x) ∧ Frm [qb] w w') := by
  subst hi
  rcases h with ⟨l, rfl, h⟩ | ⟨c, rfl, h0, h⟩
  · refine (rq_fail k h).mono ?_
    rintro e w' ⟨rfl, rfl⟩
    obtain ⟨h1, h2⟩ := h.fault k
    exact ⟨rfl, .inr ⟨k, rfl, hk, h1⟩, h2⟩
  · refine (rqfail_fault k h h0).mono ?_
    rintro e w' ⟨rfl, rfl⟩
    exact ⟨rfl, .inr ⟨c, rfl, h0, h⟩, Frm.refl _ _⟩
theorem stq_end {w : World} {qb B : Nat} {x : List Nat ⊕ Nat} (h : StQ w qb B x) :
    Calls Tryd.prog 14 #[.pointer (some ⟨qb, 0, none⟩)] w (fun e w' => e = .returned (.int .i64 (endN x : Nat)) ∧ Frm [qb] w w') := by
  rcases h with ⟨l, rfl, h⟩ | ⟨c, rfl, h0, h⟩
  · refine (rq_end_ok h _ rfl).mono ?_
    rintro e w' ⟨rfl, h1⟩
    refine ⟨?_, h1⟩
    unfold endN
    simp only
    split <;> rfl
  · refine (rq_end_fault c h h0).mono ?_
    rintro e w' ⟨rfl, rfl⟩
    exact ⟨rfl, Frm.refl _ _⟩
end Go.Proofs.YtahhkffghhgojaaDoor
/- '==' and '!=' of two api.Line. -/
namespace Go.Proofs.YtahhkffghhgojaaDoor
open Go.RowKit
set_option maxRecDepth 100000
theorem stood_ln : Tryd.prog.stoodInHeld 56 = false := by kernel_rfl
theorem fields_ln : Tryd.prog.underlying 56 = some (.struct (Tryd.prog.fieldsOf 56)) := by kernel_rfl
theorem stood_lnp : Tryd.prog.stoodInHeld 29 = false := by kernel_rfl
theorem fields_lnp : Tryd.prog.underlying 29 = some (.struct (Tryd.prog.fieldsOf 29)) := by kernel_rfl
theorem part_ln0 (p0 : ByteArray) (p1 p2 p3 p4 : Nat) (w : World) : (part 9 #[.string p0, .int .u64 (p1 : Nat), .int .u64 (p2 : Nat), .int .u64 (p3 : Nat), .int .u64 (p4 : Nat)] 0).run Tryd.prog w = .ok (.string p0) w := by kernel_rfl
theorem part_ln1 (p0 : ByteArray) (p1 p2 p3 p4 : Nat) (w : World) : (part 27 #[.string p0, .int .u64 (p1 : Nat), .int .u64 (p2 : Nat), .int .u64 (p3 : Nat), .int .u64 (p4 : Nat)] 1).run Tryd.prog w = .ok (.int .u64 (p1 : Nat)) w := by kernel_rfl
theorem part_ln2 (p0 : ByteArray) (p1 p2 p3 p4 : Nat) (w : World) : (part 27 #[.string p0, .int .u64 (p1 : Nat), .int .u64 (p2 : Nat), .int .u64 (p3 : Nat), .int .u64 (p4 : Nat)] 2).run Tryd.prog w = .ok (.int .u64 (p2 : Nat)) w := by kernel_rfl
theorem part_ln3 (p0 : ByteArray) (p1 p2 p3 p4 : Nat) (w : World) : (part 29 #[.string p0, .int .u64 (p1 : Nat), .int .u64 (p2 : Nat), .int .u64 (p3 : Nat), .int .u64 (p4 : Nat)] 3).run Tryd.prog w = .ok (.agg #[.int .u64 (p3 : Nat), .int .u64 (p4 : Nat)]) w := by kernel_rfl
theorem part_lnp0 (p3 p4 : Nat) (w : World) : (part 27 #[.int .u64 (p3 : Nat), .int .u64 (p4 : Nat)] 0).run Tryd.prog w = .ok (.int .u64 (p3 : Nat)) w := by kernel_rfl
theorem part_lnp1 (p3 p4 : Nat) (w : World) : (part 27 #[.int .u64 (p3 : Nat), .int .u64 (p4 : Nat)] 1).run Tryd.prog w = .ok (.int .u64 (p4 : Nat)) w := by kernel_rfl
theorem fl_ln : ((Tryd.prog.fieldsOf 56).toList.map fun f => (f.name, f.type, f.offset)) = [("Name", 9, 0), ("Top", 27, 1), ("Done", 27, 2), ("At", 29, 3)] := by kernel_rfl
theorem fl_lnp : ((Tryd.prog.fieldsOf 29).toList.map fun f => (f.name, f.type, f.offset)) = [("Ledger", 27, 0), ("Entry", 27, 1)] := by kernel_rfl
theorem equal_lnp (d : Nat) (p3 p4 q3 q4 : Nat) (w : World) : (Op.equalIn (d + 2) 29 (.agg #[.int .u64 (p3 : Nat), .int .u64 (p4 : Nat)]) (.agg #[.int .u64 (q3 : Nat), .int .u64 (q4 : Nat)])).run Tryd.prog w = .ok (decide (p3 = q3) && decide (p4 = q4)) w := by
  rw [run_equalIn_struct w (d + 1) _ _ _ fields_lnp stood_lnp]
  have hl := fl_lnp
  generalize (Tryd.prog.fieldsOf 29).toList = fs at hl
  have e0 := fun d (x y : Nat) W => run_equalIn_int (P := Tryd.prog) W d 27 .u64 .u64 (x : Int) (y : Int) Tryd.underlying27
  rcases fs with _ | ⟨f0, _ | ⟨f1, _ | ⟨x, fs⟩⟩⟩
  · simp at hl
  · simp at hl
  · simp only [List.map_cons, List.map_nil, List.cons.injEq, Prod.mk.injEq, and_true] at hl
    obtain ⟨⟨n0, t0, o0⟩, n1, t1, o1⟩ := hl
    simp only [Op.eqFields, n0, n1, t0, t1, o0, o1]
    simp only [Sem.run_bind, ne_eq, String.reduceEq, not_false_eq_true, if_true, part_lnp0, Result.andThen_ok, e0 d]
    by_cases h0 : p3 = q3
    · by_cases h1 : p4 = q4
      · simp [h0, h1, part_lnp1, e0]
      · have g1 : ((p4 : Int) == (q4 : Int)) = false := by simp; omega
        simp [h0, h1, g1, part_lnp1, e0]
    · have g0 : ((p3 : Int) == (q3 : Int)) = false := by simp; omega
      simp [h0, g0]
  · simp at hl
theorem equal_ln (p0 : ByteArray) (p1 p2 p3 p4 : Nat) (q0 : ByteArray) (q1 q2 q3 q4 : Nat) (w : World) : (Op.equalIn 10000 56 (.agg #[.string p0, .int .u64 (p1 : Nat), .int .u64 (p2 : Nat), .int .u64 (p3 : Nat), .int .u64 (p4 : Nat)]) (.agg #[.string q0, .int .u64 (q1 : Nat), .int .u64 (q2 : Nat), .int .u64 (q3 : Nat), .int .u64 (q4 : Nat)])).run Tryd.prog w = .ok (decide ((⟨p0, p1, p2, p3, p4⟩ : Ln) = ⟨q0, q1, q2, q3, q4⟩)) w := by
  rw [run_equalIn_struct w 9999 _ _ _ fields_ln stood_ln]
  have hl := fl_ln
  generalize (Tryd.prog.fieldsOf 56).toList = fs at hl
  have e0 := fun d (x y : ByteArray) W => run_equalIn_string (P := Tryd.prog) W d 9 x y Tryd.underlying9
  have e1 := fun d (x y : Nat) W => run_equalIn_int (P := Tryd.prog) W d 27 .u64 .u64 (x : Int) (y : Int) Tryd.underlying27
  have e3 : ∀ (x y z u : Nat) (W : World), (Op.equalIn 9999 29 (.agg #[.int .u64 (x : Nat), .int .u64 (y : Nat)]) (.agg #[.int .u64 (z : Nat), .int .u64 (u : Nat)])).run Tryd.prog W = .ok (decide (x = z) && decide (y = u)) W := fun x y z u W => equal_lnp 9997 x y z u W
  rcases fs with _ | ⟨f0, _ | ⟨f1, _ | ⟨f2, _ | ⟨f3, _ | ⟨x, fs⟩⟩⟩⟩⟩
  · simp at hl
  · simp at hl
  · simp at hl
  · simp at hl
  · simp only [List.map_cons, List.map_nil, List.cons.injEq, Prod.mk.injEq, and_true] at hl
    obtain ⟨⟨n0, t0, o0⟩, ⟨n1, t1, o1⟩, ⟨n2, t2, o2⟩, n3, t3, o3⟩ := hl
    simp only [Op.eqFields, n0, n1, n2, n3, t0, t1, t2, t3, o0, o1, o2, o3]
    simp only [Sem.run_bind, ne_eq, String.reduceEq, not_false_eq_true, if_true, part_ln0, Result.andThen_ok, e0 9998]
    by_cases h0 : p0 = q0
    · by_cases h1 : p1 = q1
      · by_cases h2 : p2 = q2
        · simp [h0, h1, h2, part_ln1, part_ln2, part_ln3, e1, e3]
          by_cases h3 : p3 = q3 <;> by_cases h4 : p4 = q4 <;> simp [h3, h4]
        · have g2 : ((p2 : Int) == (q2 : Int)) = false := by simp; omega
          simp [h0, h1, h2, g2, part_ln1, part_ln2, e1]
      · have g1 : ((p1 : Int) == (q1 : Int)) = false := by simp; omega
        simp [h0, h1, g1, part_ln1, e1]
    · have g0 := txt_ne h0
      simp [h0, g0]
  · simp at hl
theorem neq_ln (p0 : ByteArray) (p1 p2 p3 p4 : Nat) (q0 : ByteArray) (q1 q2 q3 q4 : Nat) (w : World) : (binOp .neq 56 (.agg #[.string p0, .int .u64 (p1 : Nat), .int .u64 (p2 : Nat), .int .u64 (p3 : Nat), .int .u64 (p4 : Nat)]) (.agg #[.string q0, .int .u64 (q1 : Nat), .int .u64 (q2 : Nat), .int .u64 (q3 : Nat), .int .u64 (q4 : Nat)])).run Tryd.prog w = .ok (.bool (!decide ((⟨p0, p1, p2, p3, p4⟩ : Ln) = ⟨q0, q1, q2, q3, q4⟩))) w := by
  rw [run_neq_struct, equal_ln]; rfl
end Go.Proofs.YtahhkffghhgojaaDoor
