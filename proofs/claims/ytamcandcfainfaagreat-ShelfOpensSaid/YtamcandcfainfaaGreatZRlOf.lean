/- Contracts of the document's Of and Item. -/
import Derived.Test.YtamcandcfainfaaGreatMX
import Derived.Test.YtamcandcfainfaaGreatZRlSet
import Derived.WalkSpells
namespace Go.Proofs.YtamcandcfainfaaGreat
open Go.RowKit
set_option maxRecDepth 100000

/-- An entry's place; how many there are, if it isn't there. -/
def ixN (X : List Ix) (k : Nat) : Nat := X.findIdx (fun x => decide (x.t.1 = k))
theorem ixN_le (X : List Ix) (k : Nat) : ixN X k ≤ X.length := List.findIdx_le_length
theorem ixN_key {X : List Ix} {k : Nat} (h : ixN X k < X.length) : (X.getD (ixN X k) default).t.1 = k := by
  have h1 := List.findIdx_getElem (p := fun x : Ix => decide (x.t.1 = k)) (w := h)
  rw [show X.getD (ixN X k) default = X[ixN X k]'h by simp [h]]
  exact of_decide_eq_true h1
theorem ixN_before {X : List Ix} {k j : Nat} (h : j < ixN X k) : (X.getD j default).t.1 ≠ k := by
  have hj : j < X.length := Nat.lt_of_lt_of_le h (ixN_le X k)
  have := List.not_of_lt_findIdx h
  rw [show X.getD j default = X[j] by simp [hj]]
  simpa using this
def ixI (X : List Ix) (k : Nat) : Int := if ixN X k < X.length then ((ixN X k : Nat) : Int) else -1
theorem nat_ne {a b : Nat} (h : ¬ a = b) : ((a : Int) == (b : Int)) = false := by rw [beq_eq_false_iff_ne]; omega

set_option maxHeartbeats 2000000 in
theorem ritem_any {w : World} {F : List Nat} (b o k n c : Nat) (a : Option Addr) (X : List Ix) (h4 : w.cell? ⟨b, o + 4, none⟩ = some (.slice a n c)) (hnn : n = X.length) (hX : IL w F a X) (hn : n ≤ 1000000) :
    Calls Tryz.prog 26 #[.pointer (some ⟨b, o, none⟩), .int .u64 (k : Nat)] w fun e w' => e = .returned (.int .i64 (ixI X k)) ∧ w = w' := by
  have HR := Lib.hid hX
  have HN := Lib.hid hnn
  have hle := ixN_le X k
  rw [← hnn] at hle
  have hatI : ixI X k = if ixN X k < n then ((ixN X k : Nat) : Int) else -1 := by unfold ixI; rw [hnn]
  have HAK := Lib.hid (fun h => ixN_key (X := X) (k := k) h)
  have HAB := Lib.hid (fun j h => ixN_before (X := X) (k := k) (j := j) h)
  obtain ⟨q, hq⟩ : ∃ q, q = ixN X k := ⟨_, rfl⟩
  rw [← hq] at hle hatI HAK HAB
  have HAI := Lib.hid hatI
  clear hX hnn hatI hq
  go_enter Tryz.func26, Tryz.ntmps26
  go_wp2
  go_loop [5] (fun u => ∃ t : Nat, t ≤ n ∧ t ≤ q ∧ u = .int .i64 (t : Nat)) (fun u => n - (intOf u).toNat)
  case atStart => exact ⟨0, Nat.zero_le _, Nat.zero_le _, rfl⟩
  case round =>
    obtain ⟨t, ht, htq, rfl⟩ := hrel
    by_cases hlt : t < n
    · obtain ⟨bx, off, rfl, c1, _, _⟩ := HR.out.at (i := t) (by have := HN.out; omega)
      by_cases htq2 : t = q
      · subst htq2
        have hkey := HAK.out (by have := HN.out; omega)
        rw [hkey] at c1
        go_wp2
        go_ret
        exact ⟨ret_same (by rw [HAI.out, if_pos hlt]), rfl⟩
      · obtain ⟨K, hK⟩ : ∃ K, K = (X.getD t default).t.1 := ⟨_, rfl⟩
        have hne : ¬ K = k := by rw [hK]; exact HAB.out t (by omega)
        rw [← hK] at c1
        have hnt := nat_ne hne
        clear hK hne
        go_wp2
        go_round
        case rel => exact ⟨t + 1, by omega, by omega, by go_num⟩
        case measure => simp [intOf]; omega
    · go_wp2
      go_ret
      exact ⟨ret_same (by rw [HAI.out, if_neg (by omega)]), rfl⟩

theorem Rs.at {w : World} {B : Nat} {F : List Nat} {q : Nat} {dv : Value} {La : Option Addr} {Lc : Nat} {R : List Rl} {m : Nat} (h : Rs w B F q dv La Lc R m) {i : Nat} (hi : i < R.length) :
    ∃ g, La = some ⟨g, 0, none⟩ ∧ w.cell? ⟨g, i * 5, none⟩ = some (.int .u64 ((R.getD i default).id : Nat)) ∧ w.cell? ⟨g, i * 5 + 1, none⟩ = some (.bool (R.getD i default).fen) ∧ w.cell? ⟨g, i * 5 + 2, none⟩ = some (.bool (R.getD i default).gone) ∧ w.cell? ⟨g, i * 5 + 3, none⟩ = some (.int .u64 ((R.getD i default).sure : Nat)) ∧ w.cell? ⟨g, i * 5 + 4, none⟩ = some (.slice (R.getD i default).a (R.getD i default).X.length (R.getD i default).c) := by
  obtain ⟨g, rfl⟩ : ∃ g, La = some ⟨g, 0, none⟩ := by
    rcases h.own.2 with ⟨_, h0⟩ | ⟨g, _, _, hv, _⟩
    · omega
    · simp only [Value.slice.injEq] at hv
      exact ⟨g, hv.1⟩
  obtain ⟨n0, n1, n2, n3, n4⟩ := rc_at R i hi
  exact ⟨g, rfl, (World.ownsRow.cellAt h.own (i * 5) (by omega)).trans n0, (World.ownsRow.cellAt h.own (i * 5 + 1) (by omega)).trans n1, (World.ownsRow.cellAt h.own (i * 5 + 2) (by omega)).trans n2, (World.ownsRow.cellAt h.own (i * 5 + 3) (by omega)).trans n3, (World.ownsRow.cellAt h.own (i * 5 + 4) (by omega)).trans n4⟩
theorem infoIt2 : (Tryz.prog.info? 57).map (fun i => (i.zero, i.size, i.bytes)) = some (some (.agg #[.int .u64 0, .slice none 0 0]), 2, 32) := by kernel_rfl
theorem infoLe : (Tryz.prog.info? 82).map (fun i => (i.zero, i.size, i.bytes)) = some (some (.agg #[.int .u64 0, .bool false, .bool false, .int .u64 0, .slice none 0 0]), 5, 48) := by kernel_rfl
/-- A ledger's place; how many there are, if it isn't there. -/
def rlN (R : List Rl) (k : Nat) : Nat := R.findIdx (fun x => decide (x.id = k))
theorem rlN_le (X : List Rl) (k : Nat) : rlN X k ≤ X.length := List.findIdx_le_length
theorem rlN_key {X : List Rl} {k : Nat} (h : rlN X k < X.length) : (X.getD (rlN X k) default).id = k := by
  have h1 := List.findIdx_getElem (p := fun x : Rl => decide (x.id = k)) (w := h)
  rw [show X.getD (rlN X k) default = X[rlN X k]'h by simp [h]]
  exact of_decide_eq_true h1
theorem rlN_before {X : List Rl} {k j : Nat} (h : j < rlN X k) : (X.getD j default).id ≠ k := by
  have hj : j < X.length := Nat.lt_of_lt_of_le h (rlN_le X k)
  have := List.not_of_lt_findIdx h
  rw [show X.getD j default = X[j] by simp [hj]]
  simpa using this
theorem vals_all (w : World) (cs : Array Value) (t : TypeId) (mm : Nat × Nat) : ValsAt (w.alloc (.cells cs t mm)) (some ⟨w.heap.size, 0, none⟩) cs.toList := by
  refine .inr ⟨_, _, rfl, fun i x hx => ?_⟩
  rw [cell_of_row _ w.heap.size _ cs t mm (heap_alloc_new w _)]
  simpa using hx
/-- A ledger more. -/
theorem Rs.app {w wa w' : World} {B : Nat} {F : List Nat} {q : Nat} {dv : Value} {La La' : Option Addr} {Lc Lc' : Nat} {R : List Rl} {m n id : Nat} (h : Rs w B F q dv La Lc R m) (hF : ∀ x ∈ F, x < w.heap.size) (hid : ∀ r ∈ R, r.id ≠ id) (hlt : id < N64) (hfa : Frm [] w wa) (hn : n = R.length)
    (ha : AppS wa w' B 82 5 (.slice La n Lc) n 1 (rc R) (rc [{ id := id }]) La' Lc') :
    Rs (w'.setCell ⟨q, 0, none⟩ (.slice La' (n + 1) Lc')) B F q dv La' Lc' (R ++ [{ id := id }]) (m + 1) ∧ Frm (rwB q La R) w (w'.setCell ⟨q, 0, none⟩ (.slice La' (n + 1) Lc')) ∧ ∀ x ∈ rwB q La' (R ++ [{ id := id }]), x ∈ rwB q La R ∨ w.heap.size ≤ x := by
  subst hn
  obtain ⟨k1, k2, k3⟩ := h.kinds
  have hlts := h.lt
  have hqlt := h.box.lt
  have hBs : B ≤ w.heap.size := by have h1 := (h.out q (by unfold rwB; simp)).2; omega
  have hf : Frm (blk La) wa w' := (Frm.refl _ _).grown ha.grown (fun g hg => .inl (ownBlk.1 hg))
  have hp : ∀ g ∈ blk La', g ∈ blk La ∨ wa.heap.size ≤ g := by
    intro g hg
    have hg' : (Value.slice La' (R.length + 1) Lc').ownBlock = some g := ownBlk.2 hg
    rcases ha.place with h1 | h1
    · exact .inl (ownBlk.1 (h1 ▸ hg'))
    · rw [hg'] at h1
      cases h1
      exact .inr (Nat.le_refl _)
  have hqa : q ∉ blk La' := fun hm => by
    rcases hp q hm with h1 | h1
    · exact k1 h1
    · have := hfa.size; omega
  have hs : Frm [q] w' (w'.setCell ⟨q, 0, none⟩ (.slice La' (R.length + 1) Lc')) := (Frm.refl _ _).setCell (.inl (by simp)) _
  have hall : Frm (q :: blk La) w (w'.setCell ⟨q, 0, none⟩ (.slice La' (R.length + 1) Lc')) := (hfa.trans (hf.weak (U := q :: blk La) (fun x hx => by simp [hx])) (by simp) (fun x hx => .inl hx)).trans (hs.weak (U := q :: blk La) (fun x hx => by simp at hx; simp [hx])) (fun x hx => hx) (fun x hx => .inl hx)
  have newB : ∀ x ∈ rwB q La' (R ++ [{ id := id }]), x ∈ rwB q La R ∨ w.heap.size ≤ x := by
    intro x hx
    rcases rwB_cases hx with rfl | h1 | ⟨r, hr, h1⟩
    · exact .inl (by unfold rwB; simp)
    · rcases hp x h1 with h2 | h2
      · exact .inl (by unfold rwB; simp [h2])
      · have := hfa.size; exact .inr (by omega)
    · rcases List.mem_append.1 hr with h2 | h2
      · exact .inl (rwB_row h2 h1)
      · simp at h2; subst h2; simp at h1
  refine ⟨⟨?_, ?_, fun r hr => ?_, ?_, ?_, fun g hg => ?_, ?_⟩, hall.weak (fun x hx => ?_), newB⟩
  · have h1 := (hf.whole (hfa.whole h.box (by simp)) k1).put 0 (.slice La' (R.length + 1) Lc')
    simpa using h1
  · have h1 := hs.own ha.own (fun g hg hm => by simp at hm; subst hm; exact hqa (ownBlk.1 hg))
    rw [List.length_append, rc_append]
    exact h1
  · have wk : ∀ x ∈ rwB q La' (R ++ [{ id := id }]) ++ F, x ∈ rwB q La R ++ F ∨ w.heap.size ≤ x := fun x hx => by
      rcases List.mem_append.1 hx with h1 | h1
      · rcases newB x h1 with h2 | h2
        · exact .inl (by simp [h2])
        · exact .inr h2
      · exact .inl (by simp [h1])
    rcases List.mem_append.1 hr with h2 | h2
    · refine (h.all r h2).keep hall (fun g hg hm => ?_) (fun x hx => .inl ?_) wk
      · rcases List.mem_cons.1 hm with rfl | h3
        · exact k2 r h2 hg
        · exact k3 r h2 g h3 hg
      · unfold rwB
        rcases List.mem_cons.1 hx with rfl | h3
        · simp
        · simp [h3]
    · simp at h2
      subst h2
      exact ⟨World.ownsRow_nil _ _ _ _, IOk.nil _ _, List.Pairwise.nil, hlt, by show 0 < N64; omega⟩
  · rw [List.map_append, List.nodup_append]
    refine ⟨h.ids, by simp, fun x hx y hy => ?_⟩
    obtain ⟨r, hr, rfl⟩ := List.mem_map.1 hx
    simp at hy
    subst hy
    exact hid r hr
  · refine List.pairwise_append.2 ⟨h.apart, by simp, fun r hr s hs g hg hm => ?_⟩
    simp at hs
    subst hs
    simp at hm
  · rcases newB g hg with h1 | h1
    · exact h.out g h1
    · exact ⟨fun hm => by have := hF g hm; omega, by omega⟩
  · refine ⟨by rw [List.length_append]; have := h.few.1; simp; omega, fun r hr => ?_⟩
    rcases List.mem_append.1 hr with h2 | h2
    · have := h.few.2 r h2; omega
    · simp at h2; subst h2; simp
  · unfold rwB
    rcases List.mem_cons.1 hx with rfl | h3
    · simp
    · simp [h3]
/-- What Of leaves: the ledgers R', of which the one at i is asked for. -/
def OfEnd (w : World) (B : Nat) (F : List Nat) (q : Nat) (dv : Value) (La : Option Addr) (R : List Rl) (m id : Nat) (e : Ending) (w' : World) : Prop :=
  ∃ (i : Nat) (La' : Option Addr) (Lc' : Nat) (R' : List Rl), e = .returned (.int .i64 (i : Nat)) ∧ Rs w' B F q dv La' Lc' R' (m + 1) ∧ i < R'.length ∧ (R'.getD i default).id = id ∧ nodeOf R' = nodeOf R ∧ Frm (rwB q La R) w w' ∧ ∀ x ∈ rwB q La' R', x ∈ rwB q La R ∨ w.heap.size ≤ x

set_option maxHeartbeats 2000000 in
theorem rof_any {w : World} {B : Nat} {F : List Nat} {q : Nat} {dv : Value} {La : Option Addr} {Lc : Nat} {R : List Rl} {m : Nat} (id : Nat) (hid : id < N64) (h : Rs w B F q dv La Lc R m) (hF : ∀ x ∈ F, x < w.heap.size) (hm : m ≤ 1000000) :
    Calls Tryz.prog 24 #[.pointer (some ⟨q, 0, none⟩), .int .u64 (id : Nat)] w (OfEnd w B F q dv La R m id) := by
  obtain ⟨i0, hinf, hz0, hz1, hz2⟩ := info_parts infoLe
  obtain ⟨n, hn⟩ : ∃ n, n = R.length := ⟨_, rfl⟩
  have c0 := h.box.cell 0
  rw [← hn] at c0
  simp at c0
  have hn6 : n ≤ 1000000 := by have := h.few.1; omega
  have hle := rlN_le R id
  rw [← hn] at hle
  have HAK := Lib.hid (fun h => rlN_key (X := R) (k := id) h)
  have HAB := Lib.hid (fun j h => rlN_before (X := R) (k := id) (j := j) h)

  obtain ⟨z, hz⟩ : ∃ z, z = rlN R id := ⟨_, rfl⟩
  rw [← hz] at hle HAK HAB
  have HN := Lib.hid hn
  have H := Lib.hid h
  have HF := Lib.hid hF
  clear h hF hn hz
  go_enter Tryz.func24, Tryz.ntmps24
  go_wp2
  go_loop [5] (fun u => ∃ t : Nat, t ≤ n ∧ t ≤ z ∧ u = .int .i64 (t : Nat)) (fun u => n - (intOf u).toNat)
  case atStart => exact ⟨0, Nat.zero_le _, Nat.zero_le _, rfl⟩
  case round =>
    obtain ⟨t, ht, htq, rfl⟩ := hrel
    by_cases hlt : t < n
    · obtain ⟨g, rfl, c1, _, _, _, _⟩ := H.out.at (i := t) (by have := HN.out; omega)
      by_cases htq2 : t = z
      · subst htq2
        have hkey := HAK.out (by have := HN.out; omega)
        rw [hkey] at c1
        have HE : Hid (OfEnd w B F q dv (some ⟨g, 0, none⟩) R m id (.returned (.int .i64 (t : Nat))) w) := Lib.hid ⟨t, _, Lc, R, rfl, H.out.more (by omega), by have := HN.out; omega, hkey, rfl, Frm.refl _ _, fun x hx => .inl hx⟩
        clear hkey
        go_wp2
        go_ret
        exact HE.out
      · obtain ⟨K, hK⟩ : ∃ K, K = (R.getD t default).id := ⟨_, rfl⟩
        have hne : ¬ K = id := by rw [hK]; exact HAB.out t (by omega)
        rw [← hK] at c1
        have hnt := nat_ne hne
        clear hK hne
        go_wp2
        go_round
        case rel => exact ⟨t + 1, by omega, by omega, by go_num⟩
        case measure => simp [intOf]; omega
    · have hout : ∀ r ∈ R, r.id ≠ id := fun r hr he => by
        obtain ⟨j, hj, rfl⟩ := List.mem_iff_getElem.1 hr
        have := HAB.out j (by have := HN.out; omega)
        rw [show R.getD j default = R[j] by simp [hj]] at this
        exact this he
      have HAPP := Lib.hid (fun wa w' La' Lc' hfa ha => Rs.app (wa := wa) (w' := w') (La' := La') (Lc' := Lc') H.out HF.out hout hid hfa HN.out ha)
      have HOW : Hid (∀ z, Frm [] w z → z.ownsRow B 82 5 (.slice La n Lc) n (rc R)) := Lib.hid fun z hz => by have := hz.own H.out.own (by simp); rw [← HN.out] at this; exact this
      have HBS : Hid (B ≤ w.heap.size) := Lib.hid (by have h1 := (H.out.out q (by unfold rwB; simp)).2; have h2 := H.out.box.lt; omega)
      have HQW : Hid (∀ wa w' La' Lc', Frm [] w wa → AppS wa w' B 82 5 (.slice La n Lc) n 1 (rc R) (rc [{ id := id }]) La' Lc' → Whole w' q 40 #[.slice La n Lc, dv]) := Lib.hid fun wa w' La' Lc' hfa ha => by
        have hf : Frm (blk La) wa w' := (Frm.refl _ _).grown ha.grown (fun g hg => .inl (ownBlk.1 hg))
        have := hf.whole (hfa.whole H.out.box (by simp)) H.out.kinds.1
        rw [← HN.out] at this; exact this
      have HINF := Lib.hid hinf
      clear hout hinf
      go_wp2_with (refine wpList_appS rfl (.tmp 30) (.tmp 33) 38 rfl B 82 i0 (.agg #[.int .u64 0, .bool false, .bool false, .int .u64 0, .slice none 0 0]) 5 48 Tryz.underlying38 HINF.out hz0 rfl (by omega) hz1 hz2 (by omega) (.slice La n Lc) n (rc R) rfl (HOW.out _ ((Frm.refl [] w).alloc _)) (some ⟨w.heap.size, 0, none⟩) 1 1 (rc [{ id := id }]) rfl (vals_all _ _ _ _) rfl (rc_one _) (fun h => by cases h) (by omega) (by have h1 := HBS.out; simp; omega) ?_; intro a' c' w3 happ; have hq3 := HQW.out _ _ _ _ ((Frm.refl [] w).alloc _) happ; have HAP := Lib.hid (HAPP.out _ _ _ _ ((Frm.refl [] w).alloc _) happ); have k0 := hq3.cell 0; have k1 := hq3.free 0; simp at k0; clear happ hq3)
      go_ret
      exact ⟨n, a', c', R ++ [{ id := id }], rfl, HAP.out.1, by rw [List.length_append, ← HN.out]; simp, by rw [HN.out]; simp, nodeOf_made, HAP.out.2.1, HAP.out.2.2⟩
end Go.Proofs.YtamcandcfainfaaGreat
