/- Things that came in: what the law's 'long' and 'put' make of them. -/
import Derived.Test.YtpamiglinmfgkaaPkFrames
namespace Go.Proofs.Ytpamiglinmfgkaa
open Go.RowKit

/-- One Thing. -/
structure Th where
  k : Nat
  n : Nat
  ba : Option Addr
  bc : Nat
  bs : List Nat
  s : ByteArray
instance : Inhabited Th := ⟨⟨0, 0, none, 0, [], ⟨#[]⟩⟩⟩
def Th.value (t : Th) : Value := .agg #[.int .u8 t.k, .int .u64 t.n, .slice t.ba t.bs.length t.bc, .string t.s]
structure ThIn (w : World) (b o : Nat) (t : Th) : Prop where
  c0 : w.cell? ⟨b, o, none⟩ = some (.int .u8 t.k)
  c1 : w.cell? ⟨b, o + 1, none⟩ = some (.int .u64 t.n)
  c2 : w.cell? ⟨b, o + 2, none⟩ = some (.slice t.ba t.bs.length t.bc)
  c3 : w.cell? ⟨b, o + 3, none⟩ = some (.string t.s)
  bytes : Bytes w t.ba t.bs
  le : t.bs.length ≤ t.bc
  nil : t.ba = none → t.bc = 0
  k8 : t.k < 256
  n64 : t.n < 18446744073709551616
  s63 : t.s.size ≤ 9223372036854775807
def Things (w : World) (a : Option Addr) (ts : List Th) : Prop := 0 < ts.length → ∃ b off, a = some ⟨b, off, none⟩ ∧ ∀ i, i < ts.length → ThIn w b (off + i * 4) (ts.getD i default)

theorem frm_at {w w' : World} {S : List Nat} {a : Addr} {v : Value} (hf : Frm S w w') (h : w.cell? a = some v) (hn : a.block ∉ S) : w'.cell? a = some v := (hf.cell (block_lt_of_cell h) hn).trans h
theorem ThIn.keep {w w' : World} {b o : Nat} {t : Th} (h : ThIn w b o t) (hf : Frm [] w w') : ThIn w' b o t :=
  ⟨frm_at hf h.c0 (by simp), frm_at hf h.c1 (by simp), frm_at hf h.c2 (by simp), frm_at hf h.c3 (by simp), hf.bytes h.bytes (by simp), h.le, h.nil, h.k8, h.n64, h.s63⟩
theorem Things.keep {w w' : World} {a : Option Addr} {ts : List Th} (h : Things w a ts) (hf : Frm [] w w') : Things w' a ts := fun h0 => by
  obtain ⟨b, off, ha, hi⟩ := h h0
  exact ⟨b, off, ha, fun i hl => (hi i hl).keep hf⟩

/-- More than is gone to. -/
def Big (t : Th) : Prop := 1000 < t.bs.length ∨ 1000 < t.s.size

set_option maxHeartbeats 1000000 in
theorem long_small (a : Option Addr) (n cap : Nat) (ts : List Th) (w : World) (h : Things w a ts) (hn : n = ts.length) (h60 : n ≤ 60) (hs : ∀ t ∈ ts, ¬ Big t) :
    Calls Try.prog 11 #[.slice a n cap] w fun e w' => e = .returned (.bool false) ∧ Frm [] w w' := by
  have H := Lib.hid h; clear h
  have HS := Lib.hid hs; clear hs
  have HN := Lib.hid hn; clear hn
  go_enter Try.func11, Try.ntmps11
  go_wp2
  go_loopw [10] (fun i wr => ∃ k : Nat, k ≤ n ∧ i = .int .i64 k ∧ Frm [] w wr) (fun i _ => n - (intOf i).toNat)
  case atStart => exact ⟨0, Nat.zero_le _, rfl, Frm.refl _ _⟩
  case round =>
    obtain ⟨k, hk, rfl, hf⟩ := hrel
    have HF := Lib.hid hf; clear hf
    by_cases hlt : k < n
    · obtain ⟨b, off, rfl, hi⟩ := H.out (by have := HN.out; omega)
      have ht := (hi k (by have := HN.out; omega)).keep HF.out
      have hsm := HS.out (ts.getD k default) (by have := HN.out; simp [show k < ts.length by omega])
      clear hi
      generalize ts.getD k default = t at ht hsm
      unfold Big at hsm
      obtain ⟨tk, tn, tba, tbc, tbs, tstr⟩ := t
      obtain ⟨c0, c1, c2, c3, hb, hle, hnil, k8, n64, s63⟩ := ht
      simp only at c0 c1 c2 c3 hb hle hnil k8 n64 s63 hsm
      have g1 : tbs.length ≤ 1000 := by omega
      have g2 : tstr.size ≤ 1000 := by omega
      clear hsm hb
      go_wp2
      go_roundw
      case rel => exact ⟨k + 1, by omega, by go_num, HF.out.alloc _⟩
      case measure => simp [intOf]; omega
    · obtain rfl : k = n := by omega
      go_wp2
      go_ret
      exact ⟨rfl, HF.out⟩

set_option maxHeartbeats 1000000 in
theorem long_big (a : Option Addr) (n cap : Nat) (ts : List Th) (w : World) (h : Things w a ts) (hn : n = ts.length) (hn63 : n ≤ 9223372036854775807) (hs : 60 < n ∨ ∃ t ∈ ts, Big t) :
    Calls Try.prog 11 #[.slice a n cap] w fun e w' => e = .returned (.bool true) ∧ Frm [] w w' := by
  by_cases h60 : 60 < n
  · clear hs h hn
    go_enter Try.func11, Try.ntmps11
    go_wp2
    go_ret
    exact ⟨rfl, Frm.refl _ _⟩
  obtain ⟨i0, hi0, hbig⟩ : ∃ i, i < ts.length ∧ Big (ts.getD i default) := by
    rcases hs with h | ⟨t, ht, hb⟩
    · exact absurd h h60
    · obtain ⟨i, hi, rfl⟩ := List.getElem_of_mem ht
      exact ⟨i, hi, by simpa [hi] using hb⟩
  have HBIG := Lib.hid hbig; clear hbig hs
  have H := Lib.hid h; clear h
  have HN := Lib.hid hn; clear hn
  have h60' : n ≤ 60 := by omega
  clear h60
  go_enter Try.func11, Try.ntmps11
  go_wp2
  go_loopw [10] (fun i wr => ∃ k : Nat, k ≤ i0 ∧ i = .int .i64 k ∧ Frm [] w wr) (fun i _ => n - (intOf i).toNat)
  case atStart => exact ⟨0, Nat.zero_le _, rfl, Frm.refl _ _⟩
  case round =>
    obtain ⟨k, hk, rfl, hf⟩ := hrel
    have HF := Lib.hid hf; clear hf
    have hlt : k < n := by have := HN.out; omega
    obtain ⟨b, off, rfl, hi⟩ := H.out (by have := HN.out; omega)
    have ht := (hi k (by have := HN.out; omega)).keep HF.out
    have hsm : k = i0 → Big (ts.getD k default) := fun e => by rw [e]; exact HBIG.out
    clear hi hi0
    generalize ts.getD k default = t at ht hsm
    unfold Big at hsm
    obtain ⟨tk, tn, tba, tbc, tbs, tstr⟩ := t
    obtain ⟨c0, c1, c2, c3, hb, hle, hnil, k8, n64, s63⟩ := ht
    simp only at c0 c1 c2 c3 hb hle hnil k8 n64 s63 hsm
    have hb63 := hb.2.1
    clear hb
    by_cases g : 1000 < tbs.length ∨ 1000 < tstr.size
    · clear hsm
      by_cases g1 : 1000 < tbs.length
      · clear g
        go_wp2
        go_ret
        exact ⟨rfl, HF.out.alloc _⟩
      · have g2 : 1000 < tstr.size := by omega
        clear g
        go_wp2
        go_ret
        exact ⟨rfl, HF.out.alloc _⟩
    · have hne : k ≠ i0 := fun e => g (hsm e)
      have g1 : tbs.length ≤ 1000 := by omega
      have g2 : tstr.size ≤ 1000 := by omega
      clear hsm g
      go_wp2
      go_roundw
      case rel => exact ⟨k + 1, by omega, by go_num, HF.out.alloc _⟩
      case measure => simp [intOf]; omega
end Go.Proofs.Ytpamiglinmfgkaa
