/- Contract of slices.SortFunc as All calls it: the lines by their names. -/
import Derived.Test.YtahhkffghhgojaaDoorZDdCl
import Derived.Test.YtahhkffghhgojaaDoorZTbSort
import Derived.Test.YtahhkffghhgojaaDoorSortLn
namespace Go.Proofs.YtahhkffghhgojaaDoor
open Go.RowKit Go.Sort
set_option maxRecDepth 100000

/-- strings.Compare. -/
theorem dcompare_any (a b : ByteArray) (w : World) :
    Calls Tryd.prog 40 #[.string a, .string b] w fun e w' => e = .returned (.int .i64 (Lib.compareBytes a.data.toList b.data.toList)) ∧ w = w' := by
  have h1 : ∀ w, Calls Tryd.prog 58 #[.string a, .string b] w fun e w' => e = .returned (.int .i64 (Lib.compareBytes a.data.toList b.data.toList)) ∧ w = w' := by
    intro w
    go_enter Tryd.func58, Tryd.ntmps58
    go_wp2
    rw [run_callFunc_extern Tryd.func76 (by kernel_rfl) (by kernel_rfl) (by kernel_rfl) (e := Extern.BytealgCompare.compare) (by kernel_rfl), Lib.run_compareString]
    simp only [Result.andThen]
    rw [Oper.upon_value]
    go_wp2
    go_ret
    exact ⟨rfl, rfl⟩
  go_enter Tryd.func40, Tryd.ntmps40
  go_wp2_with ((with_reducible refine (h1 _).mono ?_); rintro e w' ⟨rfl, rfl⟩)
  go_ret
  exact ⟨rfl, rfl⟩

def cmpN (x y : Ln) : Int := Lib.compareBytes x.nm.data.toList y.nm.data.toList
theorem ltN (x y : Ln) : ltOf cmpN x y = kl x.nm y.nm := by
  unfold ltOf cmpN
  rw [cmp_lt, kl_data]
theorem swoN : SWO (ltOf cmpN) where
  irrefl x := by rw [ltN]; exact less_irr _
  trans x y z h1 h2 := by rw [ltN] at *; exact kl_trans h1 h2
  ntrans x y z h1 h2 := by
    rw [ltN] at *
    cases e : kl x.nm z.nm with
    | false => rfl
    | true =>
      by_cases exy : x.nm = y.nm
      · rw [exy] at e; rw [e] at h2; cases h2
      · have h3 := kl_or h1 exy
        have h4 := kl_trans h3 e
        rw [h4] at h2; cases h2
/-- All's own comparison: two blocks are laid. -/
theorem cmpfn_any (x y : Ln) (W : World) : Calls Tryd.prog 39 #[.agg x.cells.toArray, .agg y.cells.toArray] W fun e w' => e = .returned (.int .i64 (cmpN x y)) ∧ ∃ q os', w' = grow (W.drewN q) os' := by
  obtain ⟨xn, xt, xd, xl, xe⟩ := x
  obtain ⟨yn, yt, yd, yl, ye⟩ := y
  unfold cmpN
  simp only [Ln.cells]
  obtain ⟨r, hr⟩ : ∃ r, r = Lib.compareBytes xn.data.toList yn.data.toList := ⟨_, rfl⟩
  have hcp := fun w => dcompare_any xn yn w
  rw [← hr] at hcp ⊢
  have HC := Lib.hid hcp
  clear hr hcp
  go_enter Tryd.func39, Tryd.ntmps39
  go_wp2_with ((with_reducible refine (HC.out _).mono ?_); rintro e w' ⟨rfl, rfl⟩)
  go_ret
  exact ⟨rfl, 0, _, by rw [alloc_eq_grow, alloc_eq_grow, grow_grow]; rfl⟩

/-! ### the row, as the library says it -/
theorem flat_lnc (X : List Ln) : flatK Ln.cells 5 X.toArray = (lnc X).toArray := by
  apply Array.ext
  · simp [lnc_length]
  · intro i h1 h2
    have hi : i < X.length * 5 := by simpa using h1
    have hq : i / 5 < X.length := by omega
    have e1 := get_flatK Ln.cells 5 X.toArray i (by simpa using hi)
    have e2 : (flatK Ln.cells 5 X.toArray)[i]! = (flatK Ln.cells 5 X.toArray)[i] := getElem!_pos _ i h1
    rw [← e2, e1]
    obtain ⟨c0, c1, c2, c3, c4⟩ := lnc_at X (i / 5) hq
    have e3 : X.toArray[i / 5]! = X.getD (i / 5) default := by simp [hq]
    rw [e3]
    have hm : i = i / 5 * 5 + i % 5 := by omega
    have hr : i % 5 < 5 := Nat.mod_lt _ (by decide)
    have e4 : (lnc X)[i]? = some ((X.getD (i / 5) default).cells[i % 5]!) := by
      generalize i / 5 = a at *
      generalize i % 5 = b at *
      subst hm
      rcases b with _ | _ | _ | _ | _ | b
      · simpa [Ln.cells] using c0
      · simpa [Ln.cells] using c1
      · simpa [Ln.cells] using c2
      · simpa [Ln.cells] using c3
      · simpa [Ln.cells] using c4
      · omega
    have e5 : (lnc X).toArray[i] = ((X.getD (i / 5) default).cells[i % 5]!) := by
      have h3 : i < (lnc X).length := by simpa using h2
      rw [List.getElem?_eq_getElem h3] at e4
      simpa using Option.some.inj e4
    rw [e5]
theorem putc_take (F : List Value) (cur : Array Value) (h : F.length ≤ cur.size) : (putCells id 0 F.toArray cur).toList.take F.length = F ∧ (putCells id 0 F.toArray cur).size = cur.size := by
  constructor
  · apply List.ext_getElem
    · simp [putCells]; omega
    · intro i h1 h2
      simp [putCells, h2]
  · simp [putCells]
section
variable {w : World} {base blk cap n : Nat} {e : TypeId} {F : List Nat} {X Y : List Ln} {os : Array Obj}
theorem ln_holds (h : LnOwn w base e F (some ⟨blk, 0, none⟩) cap X) (hne : X ≠ []) : HoldsK Ln.cells 5 w blk 0 X.toArray ∧ blk < w.heap.size := by
  have hlen := List.length_pos_iff.2 hne
  rcases h.own.2 with ⟨_, h0⟩ | ⟨g, c, cur, hv, _, hb, h1, h2, h3, h4⟩
  · omega
  · simp only [Value.slice.injEq, Option.some.injEq, Addr.mk.injEq, and_true, true_and] at hv
    obtain ⟨rfl, rfl⟩ := hv
    refine ⟨?_, lt_of_block hb⟩
    unfold HoldsK
    rw [flat_lnc]
    intro j hj
    have hj' : j < (lnc X).length := by simpa using hj
    rw [Nat.zero_add]
    refine ⟨?_, frozen_of_row w blk j cur e hb⟩
    rw [cell_of_row w blk j cur e (0, 0) hb]
    have h5 : (lnc X)[j]? = cur.toList[j]? := by
      rw [← h4, List.getElem?_take_of_lt (by rw [lnc_length] at hj'; exact hj')]
    rw [List.getElem?_eq_getElem hj'] at h5
    simp [hj']
    simpa using h5.symm
theorem sortw_heap (w : World) (n : Nat) (F0 : Array Value) (k : Nat) (hk : k < w.heap.size) : (grow (putRow id (Sort.ahead w n) blk 0 F0) os).heap[k]? = (if k = blk then w.heap[k]?.map (onCells (putCells id 0 F0)) else w.heap[k]?) := by
  have hs : (putRow id (Sort.ahead w n) blk 0 F0).heap.size = w.heap.size := by simp [putRow, mapBlock, Sort.ahead]
  unfold grow
  simp only
  rw [Array.getElem?_append_left (by rw [hs]; exact hk)]
  unfold putRow mapBlock
  simp only [Array.getElem?_modify]
  by_cases e : k = blk
  · subst e; simp [Sort.ahead]
  · have e' : ¬ blk = k := fun h => e h.symm
    simp [e, e', Sort.ahead]
theorem sortw_frm (w : World) (n : Nat) (F0 : Array Value) : Frm [blk] w (grow (putRow id (Sort.ahead w n) blk 0 F0) os) :=
  ⟨rfl, rfl, rfl, by simp [grow, putRow, mapBlock, Sort.ahead], fun k hk hne => by
    rw [sortw_heap w n F0 k hk, if_neg (by simpa using hne)]⟩
theorem sortw_own (h : LnOwn w base e F (some ⟨blk, 0, none⟩) cap X) (hne : X ≠ []) (p : X.Perm Y) : LnOwn (sortWorldK Ln.cells 5 w blk 0 n Y.toArray os) base e F (some ⟨blk, 0, none⟩) cap Y ∧ Frm [blk] w (sortWorldK Ln.cells 5 w blk 0 n Y.toArray os) := by
  have hlen := List.length_pos_iff.2 hne
  unfold sortWorldK putRowK
  rw [flat_lnc]
  refine ⟨⟨?_, fun x hx => h.fits x (p.mem_iff.2 hx), h.away⟩, sortw_frm w n _⟩
  rcases h.own.2 with ⟨_, h0⟩ | ⟨g, c, cur, hv, hg, hb, h1, h2, h3, h4⟩
  · omega
  · simp only [Value.slice.injEq, Option.some.injEq, Addr.mk.injEq, and_true, true_and] at hv
    obtain ⟨rfl, rfl⟩ := hv
    have hlY : Y.length = X.length := p.length_eq.symm
    have hle : (lnc Y).length ≤ cur.size := by rw [lnc_length, h3, hlY]; exact Nat.mul_le_mul_right 5 h1
    obtain ⟨t1, t2⟩ := putc_take (lnc Y) cur hle
    refine ⟨lnc_length Y, .inr ⟨blk, cap, putCells id 0 (lnc Y).toArray cur, rfl, hg, ?_, by rw [hlY]; exact h1, h2, by rw [t2]; exact h3, by rw [lnc_length] at t1; exact t1⟩⟩
    rw [sortw_heap w n _ blk (lt_of_block hb), if_pos rfl, hb]
    rfl
end
theorem aggLnS : ∀ w, (isAgg 56).run Tryd.prog w = .ok true w := Tryd.isAgg56
theorem sizeLnS : ∀ w, (Go.sizeOf 56).run Tryd.prog w = .ok 5 w := Tryd.sizeOf56
theorem perm_of_in {X : List Ln} {d' : Array Ln} (h : PermIn 0 X.toArray.size X.toArray d') : X.Perm d'.toList := by
  obtain ⟨h1, _, h2⟩ := h
  have e1 : d'.extract 0 X.toArray.size = d' := by rw [← h1]; simp
  rw [e1] at h2
  simpa using h2.symm
theorem srt_of_in {X : List Ln} {d' : Array Ln} (d : Dist X) (p : X.Perm d'.toList) (hs : SortedIn (ltOf cmpN) 0 X.toArray.size d') : SrtL d'.toList := by
  have hl : d'.size = X.length := by have := p.length_eq; simp at this; exact this.symm
  unfold SrtL
  rw [List.pairwise_iff_getElem]
  intro i j hi hj hij
  have h1 := hs i j (Nat.zero_le _) hij (by simp at hj ⊢; omega)
  rw [ltN] at h1
  have hi' : i < d'.size := by simpa using hi
  have hj' : j < d'.size := by simpa using hj
  rw [getElem!_pos d' i hi', getElem!_pos d' j hj'] at h1
  have hd : Dist d'.toList := d.perm p
  have hne := List.pairwise_iff_getElem.1 hd i j hi hj hij
  simp only [Array.getElem_toList] at hne ⊢
  exact kl_or h1 (fun e => hne e.symm)
/-- slices.SortFunc over the lines. -/
theorem dsort_any {w : World} {base blk cap : Nat} {F : List Nat} {X : List Ln} (h : LnOwn w base 56 F (some ⟨blk, 0, none⟩) cap X) (hne : X ≠ []) (d : Dist X) (hn : X.length < 1000000) :
    Calls Tryd.prog 38 #[.slice (some ⟨blk, 0, none⟩) X.length cap, .func (.func 39) #[] #[]] w fun e w' =>
      e = .returned (.tuple #[]) ∧ LnOwn w' base 56 F (some ⟨blk, 0, none⟩) cap (allX X) ∧ Frm [blk] w w' := by
  obtain ⟨hH, hblk⟩ := ln_holds h hne
  have eg : ∀ args w, (callFunc 39 args).run Tryd.prog w = .ok (.enter 39 args) w := enters_of Tryd.func39 (by kernel_rfl) rfl
  have hcon := AnyQ.slices_SortFunc Tryd.sortLn 5 aggLnS sizeLnS Ln.cells (fun _ => rfl) (fun x v hv => by simp [Ln.cells] at hv; rcases hv with rfl | rfl | rfl | rfl | rfl <;> rfl) cmpN swoN 39 #[] blk 0 cap X.toArray w eg (fun _ _ _ _ x y => cmpfn_any x y _) hH hblk (by simp; omega)
  change Calls Tryd.prog 38 _ _ _ at hcon
  rw [show X.toArray.size = X.length from rfl] at hcon
  refine hcon.mono ?_
  rintro e w' ⟨rfl, d', n, os, hp, hs, rfl⟩
  have p := perm_of_in hp
  have hY : d'.toList = allX X := srt_eq (srt_of_in d p hs) (allX_srt d) (p.symm.trans (allX_perm X).symm)
  have e1 : d' = (allX X).toArray := by rw [← hY]
  rw [e1]
  have h2 := sortw_own (n := n) (os := os) h hne (allX_perm X).symm
  exact ⟨rfl, h2.1, h2.2⟩
end Go.Proofs.YtahhkffghhgojaaDoor
