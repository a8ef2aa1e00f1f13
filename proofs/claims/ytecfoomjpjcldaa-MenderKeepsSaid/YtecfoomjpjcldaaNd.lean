/- Lists of nodes (a key, a value, a version, an owner): what they read as, rows of the call's own of them. -/
import Derived.Test.YtecfoomjpjcldaaElems
namespace Go.Proofs.Ytecfoomjpjcldaa
open Go.RowKit

/-- A node. -/
structure Nd where
  k : ByteArray := ⟨#[]⟩
  v : List Nat := []
  ver : Nat := 0
  own : Nat := 0
/-- A node, and where its value lies. -/
structure Nx where
  t : Nd := {}
  a : Option Addr := none
  c : Nat := 0
instance : Inhabited Nx := ⟨{}⟩
theorem nx_default : (default : Nx) = ⟨⟨⟨#[]⟩, [], 0, 0⟩, none, 0⟩ := rfl
def Nx.cells (x : Nx) : List Value := [.string x.t.k, .slice x.a x.t.v.length x.c, .int .u64 (x.t.ver : Nat), .int .u64 (x.t.own : Nat)]
def nc (X : List Nx) : List Value := X.flatMap Nx.cells
theorem nc_append (X Y : List Nx) : nc (X ++ Y) = nc X ++ nc Y := by simp [nc]
theorem nc_cons (x : Nx) (X : List Nx) : nc (x :: X) = x.cells ++ nc X := rfl
theorem nc_length (X : List Nx) : (nc X).length = X.length * 4 := by
  induction X with
  | nil => rfl
  | cons x X ih => rw [nc_cons, List.length_append, ih, List.length_cons]; simp [Nx.cells]; omega
theorem nc_one (X : List Nx) : ∀ u ∈ nc X, u.oneCell' = true := by
  intro u hu
  unfold nc at hu
  simp only [List.mem_flatMap, Nx.cells] at hu
  obtain ⟨x, _, h⟩ := hu
  simp at h
  rcases h with h | h | h | h <;> subst h <;> rfl
theorem nc_at (X : List Nx) : ∀ i, i < X.length → (nc X)[i * 4]? = some (.string (X.getD i default).t.k) ∧ (nc X)[i * 4 + 1]? = some (.slice (X.getD i default).a (X.getD i default).t.v.length (X.getD i default).c) ∧
    (nc X)[i * 4 + 2]? = some (.int .u64 ((X.getD i default).t.ver : Nat)) ∧ (nc X)[i * 4 + 3]? = some (.int .u64 ((X.getD i default).t.own : Nat)) := by
  induction X with
  | nil => intro i hi; simp at hi
  | cons x X ih =>
    intro i hi
    have e : nc (x :: X) = .string x.t.k :: .slice x.a x.t.v.length x.c :: .int .u64 (x.t.ver : Nat) :: .int .u64 (x.t.own : Nat) :: nc X := rfl
    rw [e]
    rcases i with _ | i
    · exact ⟨rfl, rfl, rfl, rfl⟩
    · have := ih i (by simpa using hi)
      have h1 : (i + 1) * 4 = i * 4 + 1 + 1 + 1 + 1 := by omega
      rw [h1]
      simpa using this
theorem nc_take (X : List Nx) (n : Nat) : nc (X.take n) = (nc X).take (n * 4) := by
  induction X generalizing n with
  | nil => simp [nc]
  | cons x X ih =>
    rcases n with _ | n
    · simp [nc]
    · rw [List.take_succ_cons, nc_cons, nc_cons, ih, show (n + 1) * 4 = x.cells.length + n * 4 by simp [Nx.cells]; omega, List.take_length_add_append]
theorem nc_drop (X : List Nx) (n : Nat) : nc (X.drop n) = (nc X).drop (n * 4) := by
  induction X generalizing n with
  | nil => simp [nc]
  | cons x X ih =>
    rcases n with _ | n
    · simp [nc]
    · rw [List.drop_succ_cons, nc_cons, ih, show (n + 1) * 4 = x.cells.length + n * 4 by simp [Nx.cells]; omega, ← List.drop_drop, List.drop_left' rfl]

/-- What a node is known by: its value's bytes, outside the blocks F; numbers that fit. -/
structure NxOk (w : World) (F : List Nat) (x : Nx) : Prop where
  bytes : Bytes w x.a x.t.v
  away : x.t.v ≠ [] → ∀ q, x.a = some q → q.block ∉ F
  nil : x.a = none → x.c = 0
  ver : x.t.ver < 18446744073709551616
  own : x.t.own < 18446744073709551616
  key : x.t.k.size ≤ 9223372036854775807
theorem NxOk.keep {w w' : World} {F F' S : List Nat} {x : Nx} (h : NxOk w F x) (hf : Frm S w w') (hS : ∀ x ∈ S, x ∈ F ∨ w.heap.size ≤ x) (hF : ∀ x ∈ F', x ∈ F ∨ w.heap.size ≤ x) : NxOk w' F' x := by
  refine ⟨hf.bytes' h.bytes (fun hne q hq hm => ?_), fun hne q hq hm => ?_, h.nil, h.ver, h.own, h.key⟩
  · rcases hS _ hm with h1 | h1
    · exact h.away hne q hq h1
    · have := bytes_lt h.bytes hne q hq; omega
  · rcases hF _ hm with h1 | h1
    · exact h.away hne q hq h1
    · have := bytes_lt h.bytes hne q hq; omega
def NOk (w : World) (F : List Nat) (X : List Nx) : Prop := ∀ x ∈ X, NxOk w F x
theorem NOk.keep {w w' : World} {F F' S : List Nat} {X : List Nx} (h : NOk w F X) (hf : Frm S w w') (hS : ∀ x ∈ S, x ∈ F ∨ w.heap.size ≤ x) (hF : ∀ x ∈ F', x ∈ F ∨ w.heap.size ≤ x) : NOk w' F' X := fun x hx => (h x hx).keep hf hS hF
theorem NOk.append {w : World} {F : List Nat} {X Y : List Nx} (h : NOk w F X) (k : NOk w F Y) : NOk w F (X ++ Y) := fun x hx => (List.mem_append.1 hx).elim (h x) (k x)
theorem NOk.sub {w : World} {F : List Nat} {X Y : List Nx} (h : NOk w F X) (hs : ∀ x ∈ Y, x ∈ X) : NOk w F Y := fun x hx => h x (hs x hx)
theorem NOk.nil (w : World) (F : List Nat) : NOk w F [] := fun x hx => by simp at hx

/-- A slice of nodes, as it reads; neither it nor a value of it lies in the blocks F. -/
structure NL (w : World) (F : List Nat) (a : Option Addr) (X : List Nx) : Prop where
  vals : ValsAt w a (nc X)
  ok : NOk w F X
  away : X ≠ [] → ∀ q, a = some q → q.block ∉ F
theorem NL.nil (w : World) (F : List Nat) (a : Option Addr) : NL w F a [] := ⟨.inl rfl, NOk.nil _ _, fun h => absurd rfl h⟩
theorem nc_ne {X : List Nx} (h : nc X ≠ []) : X ≠ [] := by rintro rfl; exact h rfl
theorem nc_ne' {X : List Nx} (h : X ≠ []) : nc X ≠ [] := by
  intro e
  have := nc_length X
  rw [e] at this
  have := List.length_pos_iff.2 h
  simp at *; omega
theorem vals_lt {w : World} {a : Option Addr} {us : List Value} (h : ValsAt w a us) (hne : us ≠ []) : ∀ q, a = some q → q.block < w.heap.size := by
  intro q hq
  rcases h with h | ⟨b, off, rfl, hc⟩
  · exact absurd h hne
  · cases hq
    cases us with
    | nil => exact absurd rfl hne
    | cons v vs => exact block_lt_of_cell (a := ⟨b, off + 0, none⟩) (hc 0 v rfl)
theorem NL.keep {w w' : World} {F F' S : List Nat} {a : Option Addr} {X : List Nx} (h : NL w F a X) (hf : Frm S w w') (hS : ∀ x ∈ S, x ∈ F ∨ w.heap.size ≤ x) (hF : ∀ x ∈ F', x ∈ F ∨ w.heap.size ≤ x) : NL w' F' a X := by
  refine ⟨h.vals.keep hf (fun hne q hq hm => ?_), h.ok.keep hf hS hF, fun hne q hq hm => ?_⟩
  · rcases hS _ hm with h1 | h1
    · exact h.away (nc_ne hne) q hq h1
    · have := vals_lt h.vals hne q hq; omega
  · rcases hF _ hm with h1 | h1
    · exact h.away hne q hq h1
    · have := vals_lt h.vals (nc_ne' hne) q hq; omega
theorem NL.at {w : World} {F : List Nat} {a : Option Addr} {X : List Nx} (h : NL w F a X) {i : Nat} (hi : i < X.length) :
    ∃ b off, a = some ⟨b, off, none⟩ ∧ w.cell? ⟨b, off + i * 4, none⟩ = some (.string (X.getD i default).t.k) ∧ w.cell? ⟨b, off + i * 4 + 1, none⟩ = some (.slice (X.getD i default).a (X.getD i default).t.v.length (X.getD i default).c) ∧
      w.cell? ⟨b, off + i * 4 + 2, none⟩ = some (.int .u64 ((X.getD i default).t.ver : Nat)) ∧ w.cell? ⟨b, off + i * 4 + 3, none⟩ = some (.int .u64 ((X.getD i default).t.own : Nat)) ∧ NxOk w F (X.getD i default) := by
  obtain ⟨h0, h1, h2, h3⟩ := nc_at X i hi
  have hm : X.getD i default ∈ X := by simp [hi]
  rcases h.vals with h' | ⟨b, off, rfl, hc⟩
  · rw [h'] at h0; simp at h0
  · exact ⟨b, off, rfl, hc _ _ h0, by rw [Nat.add_assoc]; exact hc _ _ h1, by rw [Nat.add_assoc]; exact hc _ _ h2, by rw [Nat.add_assoc]; exact hc _ _ h3, h.ok _ hm⟩
theorem NL.take {w : World} {F : List Nat} {a : Option Addr} {X : List Nx} (h : NL w F a X) (n : Nat) : NL w F a (X.take n) := by
  refine ⟨?_, h.ok.sub (fun x hx => List.mem_of_mem_take hx), fun hne => h.away (by rintro rfl; simp at hne)⟩
  rw [nc_take]
  rcases h.vals with h' | ⟨b, off, rfl, hc⟩
  · exact .inl (by rw [h']; simp)
  · refine .inr ⟨b, off, rfl, fun i u hu => hc i u ?_⟩
    rw [List.getElem?_take] at hu
    split at hu
    · exact hu
    · cases hu
/-- The address of what is left of a slice of elements of four cells each. -/
def cut4 (a : Option Addr) (cap lo : Nat) : Option Addr := if cap = lo then a else a.map (·.add (lo * 4))
theorem NL.drop {w : World} {F : List Nat} {a : Option Addr} {X : List Nx} {cap : Nat} (h : NL w F a X) (hc : X.length ≤ cap) (lo : Nat) : NL w F (cut4 a cap lo) (X.drop lo) := by
  unfold cut4
  by_cases hlo : cap = lo
  · rw [if_pos hlo, List.drop_eq_nil_of_le (by omega)]; exact NL.nil _ _ _
  · rw [if_neg hlo]
    refine ⟨?_, h.ok.sub (fun x hx => List.mem_of_mem_drop hx), fun hne q hq hm => ?_⟩
    · rw [nc_drop]
      rcases h.vals with h' | ⟨b, off, rfl, hcc⟩
      · exact .inl (by rw [h']; simp)
      · refine .inr ⟨b, off + lo * 4, by simp [addr_add], fun i u hu => ?_⟩
        rw [List.getElem?_drop] at hu
        rw [Nat.add_assoc]
        exact hcc _ _ hu
    · cases a with
      | none => cases hq
      | some y =>
        simp at hq
        subst hq
        exact h.away (by rintro rfl; simp at hne) y rfl (by unfold Addr.add at hm; split at hm <;> exact hm)

/-- A row of the call's own of nodes. -/
structure NOwn (w : World) (base : Nat) (e : TypeId) (F : List Nat) (a : Option Addr) (cap : Nat) (X : List Nx) : Prop where
  own : w.ownsRow base e 4 (.slice a X.length cap) X.length (nc X)
  ok : NOk w (blk a ++ F) X
  away : ∀ g ∈ blk a, g ∉ F
section
variable {w w' : World} {base : Nat} {e : TypeId} {F F' S : List Nat} {a : Option Addr} {cap : Nat} {X : List Nx}
theorem NOwn.nil (w : World) (base : Nat) (e : TypeId) (F : List Nat) : NOwn w base e F none 0 [] := ⟨World.ownsRow_nil _ _ _ _, NOk.nil _ _, by simp⟩
theorem ownBlk {a : Option Addr} {n c g : Nat} : (Value.slice a n c).ownBlock = some g ↔ g ∈ blk a := by cases a <;> simp [Value.ownBlock, eq_comm]
theorem NOwn.blk_lt (h : NOwn w base e F a cap X) : ∀ g ∈ blk a, base ≤ g ∧ g < w.heap.size := fun g hg => World.ownsRow.lt h.own g (ownBlk.2 hg)
theorem NOwn.keep (h : NOwn w base e F a cap X) (hf : Frm S w w') (hS : ∀ x ∈ S, x ∈ F ∨ w.heap.size ≤ x) (hF : ∀ x ∈ F', x ∈ F ∨ w.heap.size ≤ x) : NOwn w' base e F' a cap X := by
  have hb := h.blk_lt
  refine ⟨hf.own h.own (fun g hg hm => ?_), h.ok.keep hf (fun x hx => ?_) (fun x hx => ?_), fun g hg hm => ?_⟩
  · rcases hS g hm with h1 | h1
    · exact h.away g (ownBlk.1 hg) h1
    · have := (hb g (ownBlk.1 hg)).2; omega
  · rcases hS x hx with h1 | h1
    · exact .inl (by simp [h1])
    · exact .inr h1
  · rcases List.mem_append.1 hx with h1 | h1
    · exact .inl (by simp [h1])
    · rcases hF x h1 with h2 | h2
      · exact .inl (by simp [h2])
      · exact .inr h2
  · rcases hF g hm with h1 | h1
    · exact h.away g hg h1
    · have := (hb g hg).2; omega
theorem NOwn.nl (h : NOwn w base e F a cap X) : NL w F a X := by
  refine ⟨?_, h.ok.keep (S := []) (Frm.refl _ _) (by simp) (fun x hx => .inl (by simp [hx])), fun _ q hq => h.away q.block (by rw [hq]; simp)⟩
  by_cases h0 : X = []
  · subst h0; exact .inl rfl
  · rcases h.own.2 with ⟨_, hl⟩ | ⟨g, c, cur, hv, _⟩
    · exact absurd (List.eq_nil_of_length_eq_zero hl) h0
    · simp only [Value.slice.injEq] at hv
      obtain ⟨rfl, _, rfl⟩ := hv
      refine .inr ⟨g, 0, rfl, fun i u hu => ?_⟩
      have hi : i < (nc X).length := by
        rcases Nat.lt_or_ge i (nc X).length with h' | h'
        · exact h'
        · rw [List.getElem?_eq_none h'] at hu; cases hu
      rw [nc_length] at hi
      rw [Nat.zero_add, World.ownsRow.cellAt h.own i hi]
      exact hu
theorem NOwn.caps (h : NOwn w base e F a cap X) : X.length ≤ cap ∧ cap ≤ maxLen ∧ (a = none → cap = 0) := by
  rcases h.own.2 with ⟨hv, hl⟩ | ⟨g, c, cur, hv, _, _, h1, h2, _⟩
  · simp only [Value.slice.injEq] at hv
    rw [hl, hv.2.2]; exact ⟨Nat.le_refl _, Nat.zero_le _, fun _ => rfl⟩
  · simp only [Value.slice.injEq] at hv
    obtain ⟨rfl, _, rfl⟩ := hv
    exact ⟨h1, h2, fun h => by cases h⟩
/-- What is appended lies neither in the row's block nor in F. -/
theorem NOwn.app {n m : Nat} {Y : List Nx} {a' : Option Addr} {cap' : Nat} (h : NOwn w base e F a cap X) (hn : n = X.length) (k : NOk w (blk a ++ F) Y) (hm : m = Y.length) (hF : ∀ x ∈ F, x < w.heap.size)
    (ha : AppS w w' base e 4 (.slice a n cap) n m (nc X) (nc Y) a' cap') : NOwn w' base e F a' cap' (X ++ Y) ∧ Frm (blk a) w w' ∧ (∀ g ∈ blk a', g ∈ blk a ∨ w.heap.size ≤ g) ∧ n + m = (X ++ Y).length := by
  subst hn; subst hm
  have hf : Frm (blk a) w w' := (Frm.refl _ _).grown ha.grown (fun g hg => .inl (ownBlk.1 hg))
  have hp : ∀ g ∈ blk a', g ∈ blk a ∨ w.heap.size ≤ g := by
    intro g hg
    have hg' : (Value.slice a' (X.length + Y.length) cap').ownBlock = some g := ownBlk.2 hg
    rcases ha.place with h1 | h1
    · exact .inl (ownBlk.1 (h1 ▸ hg'))
    · rw [hg'] at h1
      cases h1
      exact .inr (Nat.le_refl _)
  refine ⟨⟨?_, ?_, fun g hg hm => ?_⟩, hf, hp, by simp⟩
  · have := ha.own
    rwa [← nc_append, ← List.length_append] at this
  · refine (h.ok.append k).keep hf (fun x hx => .inl (by simp [hx])) (fun x hx => ?_)
    rcases List.mem_append.1 hx with h1 | h1
    · rcases hp x h1 with h2 | h2
      · exact .inl (by simp [h2])
      · exact .inr h2
    · exact .inl (by simp [h1])
  · rcases hp g hg with h1 | h1
    · exact h.away g h1 hm
    · have := hF g hm; omega
end
section
variable {P : Program} {t e : TypeId}
/-- 'x[lo:]' of elements of four cells. -/
theorem run_cut4 (ht : P.underlying t = some (.slice e)) (hz : ∀ w, (Go.sizeOf e).run P w = .ok 4 w) (w : World) (a : Option Addr) (n cap lo : Nat) (l : Int) (hl : l = (lo : Nat)) (h1 : lo ≤ n) :
    (Instr.slice t (.slice a n cap) (some (.int .i64 l)) none none).run P w = .ok (.slice (cut4 a cap lo) (n - lo) (cap - lo)) w := by
  subst hl
  have ht' : P.underlying t = some (.slice (P.elem t)) := by simp [Program.elem, ht]
  have he : P.elem t = e := by simp [Program.elem, ht]
  rw [run_slice_l w t _ _ _ ht' .i64 _ (by omega) (by omega), he, hz]
  simp [Result.andThen, sliced, cut4]
theorem run_head4 (ht : P.underlying t = some (.slice e)) (hz : ∀ w, (Go.sizeOf e).run P w = .ok 4 w) (w : World) (a : Option Addr) (n cap hi : Nat) (h2 : hi ≤ cap) :
    (Instr.slice t (.slice a n cap) none (some (.int .i64 (hi : Nat))) none).run P w = .ok (.slice a hi cap) w := by
  have ht' : P.underlying t = some (.slice (P.elem t)) := by simp [Program.elem, ht]
  have he : P.elem t = e := by simp [Program.elem, ht]
  rw [run_slice_h w t _ _ _ ht' .i64 _ (by omega) (by omega), he, hz]
  have := head_map a
  simp [Result.andThen, sliced, this]
theorem run_head4m (ht : P.underlying t = some (.slice e)) (hz : ∀ w, (Go.sizeOf e).run P w = .ok 4 w) (w : World) (a : Option Addr) (n cap hi mx : Nat) (h2 : hi ≤ mx) (h3 : mx ≤ cap) :
    (Instr.slice t (.slice a n cap) none (some (.int .i64 (hi : Nat))) (some (.int .i64 (mx : Nat)))).run P w = .ok (.slice a hi mx) w := by
  have ht' : P.underlying t = some (.slice (P.elem t)) := by simp [Program.elem, ht]
  have he : P.elem t = e := by simp [Program.elem, ht]
  rw [run_slice_hm w t _ _ _ ht' .i64 .i64 _ _ (by omega) (by omega) (by omega), he, hz]
  have := head_map a
  simp [Result.andThen, sliced, this]
end
end Go.Proofs.Ytecfoomjpjcldaa
