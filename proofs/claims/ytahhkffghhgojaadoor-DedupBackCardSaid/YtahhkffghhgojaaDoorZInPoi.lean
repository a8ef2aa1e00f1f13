/- Values of api.Pos that came in, as the walks are told of them. -/
import Derived.Test.YtahhkffghhgojaaDoorMA
namespace Go.Proofs.YtahhkffghhgojaaDoor
open Go.RowKit

/-- One api.Pos. -/
structure Poi where
  l : Nat
  e : Nat
instance : Inhabited Poi := ⟨⟨0, 0⟩⟩
def Poi.value (t : Poi) : Value := .agg #[.int .u64 (t.l : Nat), .int .u64 (t.e : Nat)]
/-- What is known of it but its cells. -/
structure PoiOk (w : World) (t : Poi) : Prop where
  l_lt : t.l < 18446744073709551616
  e_lt : t.e < 18446744073709551616
/-- It lies at block b from cell o on. -/
structure PoiIn (w : World) (b o : Nat) (t : Poi) : Prop where
  c0 : w.cell? ⟨b, o, none⟩ = some (.int .u64 (t.l : Nat))
  c1 : w.cell? ⟨b, o + 1, none⟩ = some (.int .u64 (t.e : Nat))
  ok : PoiOk w t
def Pois (w : World) (a : Option Addr) (ts : List Poi) : Prop := 0 < ts.length → ∃ b off, a = some ⟨b, off, none⟩ ∧ ∀ i, i < ts.length → PoiIn w b (off + i * 2) (ts.getD i default)
theorem PoiOk.keep {w w' : World} {t : Poi} (h : PoiOk w t) (_ : Frm [] w w') : PoiOk w' t :=
  ⟨h.l_lt, h.e_lt⟩
theorem PoiIn.keep {w w' : World} {b o : Nat} {t : Poi} (h : PoiIn w b o t) (hf : Frm [] w w') : PoiIn w' b o t :=
  ⟨(hf.cell (block_lt_of_cell h.c0) (by simp)).trans h.c0, (hf.cell (block_lt_of_cell h.c1) (by simp)).trans h.c1, h.ok.keep hf⟩
theorem Pois.keep {w w' : World} {a : Option Addr} {ts : List Poi} (h : Pois w a ts) (hf : Frm [] w w') : Pois w' a ts := fun h0 => by
  obtain ⟨b, off, ha, hi⟩ := h h0
  exact ⟨b, off, ha, fun i hl => (hi i hl).keep hf⟩
end Go.Proofs.YtahhkffghhgojaaDoor
