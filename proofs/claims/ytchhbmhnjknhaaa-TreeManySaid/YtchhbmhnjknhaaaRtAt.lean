/- The reference's tree in memory; contract of at: a key's place. -/
import Derived.Test.YtchhbmhnjknhaaaNd
import Derived.Test.YtchhbmhnjknhaaaStr
namespace Go.Proofs.Ytchhbmhnjknhaaa
open Go.RowKit

/-- The reference's tree at p has the nodes X; its row and the values lie outside p and the blocks F. -/
structure Rt (w : World) (B p : Nat) (F : List Nat) (a : Option Addr) (cap : Nat) (X : List Nx) : Prop where
  tree : Whole w p 29 #[.slice a X.length cap]
  row : NOwn w B 44 (p :: F) a cap X
  hp : B ≤ p
  out : p ∉ F
  few : X.length ≤ 256

/-- A key's place; how many nodes there are, if it isn't there. -/
def atN (X : List Nx) (s : ByteArray) : Nat := X.findIdx (fun x => decide (x.t.k = s))
theorem atN_le (X : List Nx) (s : ByteArray) : atN X s ≤ X.length := List.findIdx_le_length
theorem getD_get {X : List Nx} {i : Nat} (h : i < X.length) : X.getD i default = X[i] := by simp [h]
theorem atN_key {X : List Nx} {s : ByteArray} (h : atN X s < X.length) : (X.getD (atN X s) default).t.k = s := by
  have h1 := List.findIdx_getElem (p := fun x : Nx => decide (x.t.k = s)) (w := h)
  rw [getD_get h]
  exact of_decide_eq_true h1
/-- Texts as the walk compares them. -/
theorem txt_ne {s t : ByteArray} (h : ¬ s = t) : (s.toList == t.toList) = false := by
  rw [beq_eq_false_iff_ne, ByteArray.toList_eq, ByteArray.toList_eq]
  intro e
  exact h (ByteArray.ext (Array.toList_inj.1 e))
theorem txt_eq {s t : ByteArray} : (s.toList == t.toList) = decide (s = t) := by
  by_cases h : s = t
  · subst h; simp
  · rw [txt_ne h]; simp [h]
theorem atN_before {X : List Nx} {s : ByteArray} {j : Nat} (h : j < atN X s) : (X.getD j default).t.k ≠ s := by
  have hj : j < X.length := Nat.lt_of_lt_of_le h (atN_le X s)
  have := List.not_of_lt_findIdx h
  have e : X.getD j default = X[j] := by simp [hj]
  rw [e]
  simpa using this
def atI (X : List Nx) (s : ByteArray) : Int := if atN X s < X.length then ((atN X s : Nat) : Int) else -1

set_option maxRecDepth 100000 in
set_option maxHeartbeats 1000000 in
theorem rat_any {w : World} {B p : Nat} {F : List Nat} {a : Option Addr} {cap : Nat} {X : List Nx} (s : ByteArray) (h : Rt w B p F a cap X) :
    Calls Try.prog 34 #[.pointer (some ⟨p, 0, none⟩), .string s] w fun e w' => e = .returned (.int .i64 (atI X s)) ∧ w = w' := by
  have c0 := h.tree.cell 0
  simp at c0
  have hn := h.few
  obtain ⟨n, hnn⟩ : ∃ n, n = X.length := ⟨_, rfl⟩
  rw [← hnn] at c0 hn
  have HR := Lib.hid h.row.nl
  have HN := Lib.hid hnn
  have hle := atN_le X s
  rw [← hnn] at hle
  have hatI : atI X s = if atN X s < n then ((atN X s : Nat) : Int) else -1 := by unfold atI; rw [hnn]
  have HAK := Lib.hid (fun h => atN_key (X := X) (s := s) h)
  have HAB := Lib.hid (fun j h => atN_before (X := X) (s := s) (j := j) h)
  obtain ⟨q, hq⟩ : ∃ q, q = atN X s := ⟨_, rfl⟩
  rw [← hq] at hle hatI HAK HAB
  have HAI := Lib.hid hatI
  clear h hnn hatI hq
  go_enter Try.func34, Try.ntmps34
  go_wp2
  go_loop [5] (fun u => ∃ k : Nat, k ≤ n ∧ k ≤ q ∧ u = .int .i64 (k : Nat)) (fun u => n - (intOf u).toNat)
  case atStart => exact ⟨0, Nat.zero_le _, Nat.zero_le _, rfl⟩
  case round =>
    obtain ⟨k, hk, hkq, rfl⟩ := hrel
    by_cases hlt : k < n
    · obtain ⟨b, off, rfl, c1, _⟩ := HR.out.at (i := k) (by have := HN.out; omega)
      by_cases hkq2 : k = q
      · subst hkq2
        have hkey := HAK.out (by have := HN.out; omega)
        rw [hkey] at c1
        go_wp2
        go_ret
        exact ⟨ret_same (by rw [HAI.out, if_pos hlt]), rfl⟩
      · obtain ⟨K, hK⟩ : ∃ K, K = (X.getD k default).t.k := ⟨_, rfl⟩
        have hne : ¬ K = s := by rw [hK]; exact HAB.out k (by omega)
        rw [← hK] at c1
        clear hK
        have hnt := txt_ne hne
        clear hne
        go_wp2
        go_round
        case rel => exact ⟨k + 1, by omega, by omega, by go_num⟩
        case measure => simp [intOf]; omega
    · go_wp2
      go_ret
      exact ⟨ret_same (by rw [HAI.out, if_neg (by omega)]), rfl⟩
end Go.Proofs.Ytchhbmhnjknhaaa
