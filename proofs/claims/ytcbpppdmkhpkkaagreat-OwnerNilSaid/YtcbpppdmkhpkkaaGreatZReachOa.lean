/- How long an Act's bundle is. -/
import Derived.Test.YtcbpppdmkhpkkaaGreatZOpOa
import Derived.Test.YtcbpppdmkhpkkaaGreatZReachB
namespace Go.Proofs.YtcbpppdmkhpkkaaGreat
open Go.ChangeShapes Go.WideShapes Go.ChangeAt Go.RowKit
set_option maxRecDepth 100000
theorem wt_oa {H : Type} {enc : TypeId × Value → H} {w : World} {held : Bool} {fuel : Nat} {t : Oa} {y : DataW H × List MemPlace}
    (h : DataW.trod enc Tryz.prog w 0 (fun _ => true) held fuel 38 [.int .u8 (t.k : Nat), .int .u64 (t.ses : Nat), .int .u64 (t.br : Nat), .string t.key, .slice t.valA t.val.length t.valC] = some y) : Wt t.key.size (y.1.weights Tryz.prog 38) := by
  obtain ⟨ys, k, _, rfl, hlen, hyl, hf⟩ := DataW.trod_struct Tryz.underlying38 h
  have hyl' : ys.length = 5 := hyl
  match ys, hyl', hf with
  | [y0, y1, y2, y3, y4], _, hf =>
    have f3 : DataW.trod enc Tryz.prog w 0 (fun _ => true) held k 9 (([.int .u8 (t.k : Nat), .int .u64 (t.ses : Nat), .int .u64 (t.br : Nat), .string t.key, .slice t.valA t.val.length t.valC].drop 3).take (Tryz.prog.cellsOf 9)) = [y0, y1, y2, y3, y4][3]? := hf 3 _ rfl
    rw [cellsOa2] at f3
    change DataW.trod _ _ _ _ _ _ _ _ [.string t.key] = some y3 at f3
    refine (wt_string f3).mono fun q hq => ?_
    simp only [DataW.weights, Tryz.underlying38]
    change q ∈ DataW.weightsEach Tryz.prog [5, 27, 27, 9, 36] [y0.1, y1.1, y2.1, y3.1, y4.1]
    simp only [DataW.weightsEach, List.mem_append]
    exact .inr (.inr (.inr (.inl hq)))
theorem wt_Oa {H : Type} {enc : TypeId × Value → H} {w : World} {held : Bool} {t : Oa} {d : DataW H} {p : List MemPlace}
    (h : DataW.Trod enc Tryz.prog w 0 (fun _ => true) held 38 t.value d p) : Wt t.key.size (d.weights Tryz.prog 38) := by
  obtain ⟨fuel, hf⟩ := h
  exact wt_oa (t := t) (y := (d, p)) (by simpa [Value.cells, Oa.value] using hf)
end Go.Proofs.YtcbpppdmkhpkkaaGreat
