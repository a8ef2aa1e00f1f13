/- A table that is written and taken: what is done of it. (For a door seat: V says which bytes are texts.) -/
import Derived.Test.YtahhkffghhgojaaDoorZDtTkn
import Derived.Test.YtahhkffghhgojaaDoorZVaAscii
namespace Go.Proofs.YtahhkffghhgojaaDoor
open Go.RowKit
set_option maxRecDepth 100000

/-- Names of a few bytes below 128. -/
def AscN (s : ByteArray) : Prop := (∀ c ∈ strL s, c < 128) ∧ s.size ≤ 9
def Asc (X : List Ln) : Prop := ∀ x ∈ X, AscN x.nm
theorem Asc.nil : Asc [] := fun _ h => by cases h
theorem begX_names {X : List Ln} {s : ByteArray} {q : Nat} (d : Dist X) : ∀ x ∈ begX X s q, x.nm = s ∨ ∃ y ∈ X, y.nm = x.nm := by
  intro x hx
  by_cases h0 : begC X s q = 0
  · cases hh : hasL X s with
    | true =>
      rw [begX_has d h0 hh, mem_putL] at hx
      rcases hx with rfl | ⟨h1, _⟩
      · exact .inl (lnOf_has d hh).2
      · exact .inr ⟨x, h1, rfl⟩
    | false =>
      rw [begX_not h0 hh, mem_putL] at hx
      rcases hx with rfl | ⟨h1, _⟩
      · exact .inl rfl
      · exact .inr ⟨x, h1, rfl⟩
  · rw [begX_err h0] at hx
    exact .inr ⟨x, hx, rfl⟩
theorem donX_names {X : List Ln} {s : ByteArray} {q l e : Nat} (d : Dist X) : ∀ x ∈ donX X s q l e, x.nm = s ∨ ∃ y ∈ X, y.nm = x.nm := by
  intro x hx
  by_cases h0 : donC X s q = 0
  · have hh := (hasL_at X s).2 (donC_zero h0)
    rw [donX_zero d h0, mem_putL] at hx
    rcases hx with rfl | ⟨h1, _⟩
    · exact .inl (lnOf_has d hh).2
    · exact .inr ⟨x, h1, rfl⟩
  · rw [donX_err h0] at hx
    exact .inr ⟨x, hx, rfl⟩
theorem Asc.beg {X : List Ln} (h : Asc X) (d : Dist X) {s : ByteArray} (hs : AscN s) (q : Nat) : Asc (begX X s q) := fun x hx => by
  rcases begX_names d x hx with e | ⟨y, hy, e⟩
  · rw [e]; exact hs
  · rw [← e]; exact h y hy
theorem Asc.don {X : List Ln} (h : Asc X) (d : Dist X) {s : ByteArray} (hs : AscN s) (q l e : Nat) : Asc (donX X s q l e) := fun x hx => by
  rcases donX_names d x hx with e | ⟨y, hy, e⟩
  · rw [e]; exact hs
  · rw [← e]; exact h y hy
theorem Asc.forg {X : List Ln} (h : Asc X) : Asc (forX X) := fun x hx => by
  unfold forX at hx
  obtain ⟨y, hy, rfl⟩ := List.mem_map.1 hx
  exact h y (List.mem_filter.1 hy).1
theorem keepD_srt {Y : List Ln} (h : SrtL Y) : SrtL (keepD Y) := List.Pairwise.sublist List.filter_sublist h
/-- What is done, as it is taken. -/
theorem back_eq {X : List Ln} (d : Dist X) : (keepD (allX X)).map (fun x => x.wtop x.done) = allX (forX X) := by
  have p : ((keepD (allX X)).map fun x => x.wtop x.done).Perm (forX X) := by
    unfold keepD forX
    exact ((allX_perm X).filter _).map _
  have hs : SrtL ((keepD (allX X)).map fun x => x.wtop x.done) := srt_names (X := keepD (allX X)) (by rw [List.map_map]; rfl) (keepD_srt (allX_srt d))
  have hd : Dist (forX X) := dist_names (forX_names X).symm (List.Pairwise.sublist (List.filter_sublist) d)
  exact srt_eq hs (allX_srt hd) (p.trans (allX_perm (forX X)).symm)
theorem back_end {V : List Nat → Bool} (hV : VOk V) {X : List Ln} (ok : TbOk X) (ha : Asc X) : endTb V (encY (keepD (allX X))) = .inl (allX (forX X)) := by
  rw [← back_eq ok.dist]
  refine endTb_enc _ (keepD_srt (allX_srt ok.dist)) (fun x hx => ?_) ?_
  · obtain ⟨h1, h2⟩ := List.mem_filter.1 hx
    have h3 := (allX_perm X).mem_iff.1 h1
    obtain ⟨h4, h5⟩ := ha x h3
    exact ⟨ok.fits x h3, (ok.size x h3).1, (ok.size x h3).2, by simpa using h2, hV.ascii h4 (by rw [strL_length]; exact h5)⟩
  · have h1 : (keepD (allX X)).length ≤ (allX X).length := List.length_filter_le _ _
    rw [(allX_perm X).length_eq] at h1
    exact Nat.le_trans h1 ok.few
theorem endTb_inl {V : List Nat → Bool} {b : List Nat} {out : List Ln} (h : endTb V b = .inl out) : pTb V b = .inl (out, []) := by
  unfold endTb at h
  rcases h0 : pTb V b with ⟨o, l⟩ | c <;> rw [h0] at h <;> simp only at h
  · split at h
    · rename_i hl
      simp only [Sum.inl.injEq] at h
      rw [h, hl]
    · cases h
  · cases h
theorem pLns_len {V : List Nat → Bool} : ∀ {n : Nat} {out o : List Ln} {l l' : List Nat}, pLns V n out l = .inl (o, l') → o.length = out.length + n := by
  intro n
  induction n with
  | zero => intro out o l l' h; simp only [pLns, Sum.inl.injEq, Prod.mk.injEq] at h; rw [← h.1]; rfl
  | succ n ih =>
    intro out o l l' h
    unfold pLns thn at h
    rcases h0 : pLn V l with ⟨x, l1⟩ | c <;> rw [h0] at h <;> simp only at h
    · split at h
      · cases h
      · have := ih h
        rw [this, List.length_append, List.length_singleton]; omega
    · cases h
theorem endTb_len {V : List Nat → Bool} {b : List Nat} {out : List Ln} (h : endTb V b = .inl out) (h8 : ∀ c ∈ b, c < 256) : out.length < 256 := by
  have h := endTb_inl h
  unfold pTb thn at h
  rcases h0 : pN 1 b with ⟨n, l1⟩ | c <;> rw [h0] at h <;> simp only at h
  · have h1 := pLns_len h
    have h2 := (pN_left h0).2
    have h3 := val_lt (b.take 1) (fun c hc => h8 c (List.mem_of_mem_take hc))
    have h4 : (b.take 1).length ≤ 1 := List.length_take_le _ _
    have h5 : 256 ^ (b.take 1).length ≤ 256 ^ 1 := Nat.pow_le_pow_right (by decide) h4
    rw [h1, h2]
    simp
    omega
  · cases h
/-- Two letters. -/
theorem ascN_two (a c : Nat) (ha : a < 128) (hc : c < 128) : AscN (⟨#[a.toUInt8]⟩ ++ strOf [c]) ∧ (⟨#[a.toUInt8]⟩ ++ strOf [c] : ByteArray).size = 2 := by
  have h1 : strL (⟨#[a.toUInt8]⟩ ++ strOf [c] : ByteArray) = [a, c] := by
    unfold strL strOf
    simp
    omega
  have h2 : (⟨#[a.toUInt8]⟩ ++ strOf [c] : ByteArray).size = 2 := by rw [ByteArray.size_append, strOf_size]; rfl
  exact ⟨⟨fun x hx => by rw [h1] at hx; simp at hx; omega, by omega⟩, h2⟩
end Go.Proofs.YtahhkffghhgojaaDoor
