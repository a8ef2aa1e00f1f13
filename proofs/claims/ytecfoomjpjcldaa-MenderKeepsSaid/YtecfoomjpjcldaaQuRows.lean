/- Rows of ints and of bools that the call made itself, by make. -/
import Derived.Test.YtecfoomjpjcldaaQuBase
import Derived.Laws.MakeOwn
namespace Go.Proofs.Ytecfoomjpjcldaa
open Go.RowKit
set_option maxRecDepth 100000

def rowI (l : List Nat) : Array Value := (l.map (fun n => Value.int .i64 (n : Nat))).toArray
def rowB (l : List Bool) : Array Value := (l.map Value.bool).toArray
theorem rowI_set (l : List Nat) (k n : Nat) : (rowI l).setIfInBounds k (.int .i64 (n : Nat)) = rowI (l.set k n) := by simp [rowI, List.map_set]
theorem rowB_set (l : List Bool) (k : Nat) (b : Bool) : (rowB l).setIfInBounds k (.bool b) = rowB (l.set k b) := by simp [rowB, List.map_set]
theorem rowI_at (l : List Nat) (k : Nat) (h : k < l.length) : (rowI l)[k]? = some (.int .i64 (l.getD k 0 : Nat)) := by simp [rowI, List.getD, h]
theorem rowB_at (l : List Bool) (k : Nat) (h : k < l.length) : (rowB l)[k]? = some (.bool (l.getD k false)) := by simp [rowB, List.getD, h]

theorem made_eq (v : Value) (n : Nat) : madeCells #[v] n = (List.replicate n v).toArray := by
  apply Array.ext
  · simp [size_madeCells]
  · intro i h1 h2
    simp [madeCells, Nat.mod_one]

theorem infoInt : (Try.prog.info? 3).map (fun i => (i.zero, i.size, i.bytes)) = some (some (.int .i64 0), 1, 8) := by kernel_rfl
theorem infoBool : (Try.prog.info? 4).map (fun i => (i.zero, i.size, i.bytes)) = some (some (.bool false), 1, 1) := by kernel_rfl
theorem mk_ints (n : Nat) (h : n ≤ 1000) (w : World) : (Instr.makeSlice 52 (.int .i64 (n : Int)) (.int .i64 (n : Int))).run Try.prog w = .ok (.slice (some ⟨w.heap.size, 0, none⟩) n n) (w.alloc (.cells (rowI (List.replicate n 0)) 3)) := by
  obtain ⟨i0, hi0, hz0, hz1, hz2⟩ := info_parts infoInt
  have hr := run_make (P := Try.prog) w 52 3 i0 (.int .i64 0) Try.underlying52 hi0 hz0 .i64 .i64 (n : Int) (n : Int) (by omega) (by omega) (by rw [hz2]; omega) (by omega)
  have he : rowI (List.replicate n 0) = madeCells (Value.int .i64 0).cells (n * i0.size) := by
    rw [hz1, show (Value.int .i64 0).cells = #[Value.int .i64 0] from rfl, made_eq]
    simp [rowI]
  rw [he]
  simpa only [Int.toNat_natCast] using hr
theorem mk_bools (n : Nat) (h : n ≤ 1000) (w : World) : (Instr.makeSlice 48 (.int .i64 (n : Int)) (.int .i64 (n : Int))).run Try.prog w = .ok (.slice (some ⟨w.heap.size, 0, none⟩) n n) (w.alloc (.cells (rowB (List.replicate n false)) 4)) := by
  obtain ⟨i0, hi0, hz0, hz1, hz2⟩ := info_parts infoBool
  have hr := run_make (P := Try.prog) w 48 4 i0 (.bool false) Try.underlying48 hi0 hz0 .i64 .i64 (n : Int) (n : Int) (by omega) (by omega) (by rw [hz2]; omega) (by omega)
  have he : rowB (List.replicate n false) = madeCells (Value.bool false).cells (n * i0.size) := by
    rw [hz1, show (Value.bool false).cells = #[Value.bool false] from rfl, made_eq]
    simp [rowB]
  rw [he]
  simpa only [Int.toNat_natCast] using hr

/-- A slice of ints, as it reads. -/
def IIn (w : World) (a : Option Addr) (l : List Nat) : Prop := ∀ i, i < l.length → ∃ b off, a = some ⟨b, off, none⟩ ∧ w.cell? ⟨b, off + i, none⟩ = some (.int .i64 (l.getD i 0 : Nat))
theorem IIn.keep {w w' : World} {a : Option Addr} {l : List Nat} (h : IIn w a l) (hf : Frm [] w w') : IIn w' a l := fun i hi => by
  obtain ⟨b, off, h1, h2⟩ := h i hi
  exact ⟨b, off, h1, (hf.cell (p := ⟨b, off + i, none⟩) (block_lt_of_cell h2) (by simp)).trans h2⟩
theorem Whole.iin {w : World} {b : Nat} {t : TypeId} {l : List Nat} (h : Whole w b t (rowI l)) : IIn w (some ⟨b, 0, none⟩) l := fun i hi => ⟨b, 0, rfl, by
  rw [Nat.zero_add]; exact (h.cell i).trans (rowI_at l i hi)⟩
theorem Whole.bin {w : World} {b : Nat} {t : TypeId} {l : List Bool} (h : Whole w b t (rowB l)) : BIn w (some ⟨b, 0, none⟩) l := fun i hi => ⟨b, 0, rfl, by
  rw [Nat.zero_add]; exact (h.cell i).trans (rowB_at l i hi)⟩
end Go.Proofs.Ytecfoomjpjcldaa
