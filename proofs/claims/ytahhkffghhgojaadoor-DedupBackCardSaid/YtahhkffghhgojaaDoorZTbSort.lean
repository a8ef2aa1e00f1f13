/- All lines by their names: sorted, the same ones; what the calls leave, sorted. It speaks of no program. -/
import Derived.Test.YtahhkffghhgojaaDoorZTbPerm
namespace Go.Proofs.YtahhkffghhgojaaDoor
open Go.RowKit
set_option maxRecDepth 100000

theorem insL_perm (x : Ln) (Y : List Ln) : (insL x Y).Perm (x :: Y) := by
  unfold insL
  have h := List.perm_middle (a := x) (l₁ := Y.take (posL Y x.nm)) (l₂ := Y.drop (posL Y x.nm))
  rw [List.take_append_drop] at h
  simpa using h
theorem allX_perm (X : List Ln) : (allX X).Perm X := by
  have key : ∀ (Z Y : List Ln), (Z.foldl (fun Y x => insL x Y) Y).Perm (Y ++ Z) := by
    intro Z
    induction Z with
    | nil => intro Y; simp
    | cons z Z ih =>
      intro Y
      refine (ih (insL z Y)).trans ?_
      refine ((insL_perm z Y).append_right Z).trans ?_
      exact List.perm_middle.symm
  exact key X []
theorem kl_or {a b : ByteArray} (h : kl a b = false) (hne : a ≠ b) : kl b a = true := by
  cases e : kl b a with
  | true => rfl
  | false => exact absurd (kl_tot h e) hne
theorem insL_srt {x : Ln} {Y : List Ln} (h : SrtL Y) (hx : ∀ y ∈ Y, y.nm ≠ x.nm) : SrtL (insL x Y) := by
  have lo : ∀ y ∈ Y.take (posL Y x.nm), kl y.nm x.nm = true := by
    intro y hy
    obtain ⟨i, hi, rfl⟩ := List.getElem_of_mem hy
    rw [List.length_take] at hi
    have h1 := posL_before (Y := Y) (K := x.nm) (j := i) (by omega)
    rw [ln_get (by omega)] at h1
    rw [List.getElem_take]; exact h1
  have hi : ∀ y ∈ Y.drop (posL Y x.nm), kl x.nm y.nm = true := by
    intro y hy
    obtain ⟨i, hi, rfl⟩ := List.getElem_of_mem hy
    rw [List.length_drop] at hi
    have hp : posL Y x.nm < Y.length := by omega
    have h1 := posL_at hp
    rw [ln_get hp] at h1
    have h2 := kl_or h1 (hx _ (List.getElem_mem hp))
    rw [List.getElem_drop]
    rcases Nat.eq_zero_or_pos i with rfl | h0
    · exact h2
    · exact kl_trans h2 (List.pairwise_iff_getElem.1 h (posL Y x.nm) (posL Y x.nm + i) hp (by omega) (by omega))
  unfold insL SrtL
  rw [List.pairwise_append]
  refine ⟨List.Pairwise.sublist (List.take_sublist _ _) h, ?_, ?_⟩
  · rw [List.singleton_append, List.pairwise_cons]
    exact ⟨hi, List.Pairwise.sublist (List.drop_sublist _ _) h⟩
  · intro y hy z hz
    rcases List.mem_append.1 hz with h1 | h1
    · simp at h1; subst h1; exact lo y hy
    · exact kl_trans (lo y hy) (hi z h1)
theorem allX_srt {X : List Ln} (d : Dist X) : SrtL (allX X) := by
  have key : ∀ (Z Y : List Ln), SrtL Y → Dist (Y ++ Z) → SrtL (Z.foldl (fun Y x => insL x Y) Y) := by
    intro Z
    induction Z with
    | nil => intro Y h _; exact h
    | cons z Z ih =>
      intro Y h hd
      have hz : ∀ y ∈ Y, y.nm ≠ z.nm := fun y hy => (List.pairwise_append.1 hd).2.2 y hy z (by simp)
      refine ih (insL z Y) (insL_srt h hz) (hd.perm ?_)
      exact List.perm_middle.trans ((insL_perm z Y).symm.append_right Z)
  exact key X [] List.Pairwise.nil d
theorem srt_eq {X Y : List Ln} (hX : SrtL X) (hY : SrtL Y) (p : X.Perm Y) : X = Y :=
  p.eq_of_pairwise (fun a b _ _ h1 h2 => by have := kl_asym h1; rw [h2] at this; cases this) hX hY
theorem allX_eq {X Y : List Ln} (d : Dist X) (p : X.Perm Y) : allX X = allX Y :=
  srt_eq (allX_srt d) (allX_srt (d.perm p)) ((allX_perm X).trans (p.trans (allX_perm Y).symm))
theorem allX_of_srt {X : List Ln} (h : SrtL X) : allX X = X := srt_eq (allX_srt h.dist) h (allX_perm X)

theorem TbOk.perm {X Y : List Ln} (h : TbOk X) (p : X.Perm Y) : TbOk Y :=
  ⟨Dist.perm h.dist p, fun x hx => h.size x (p.mem_iff.2 hx), by rw [← p.length_eq]; exact h.few, fun x hx => h.fits x (p.mem_iff.2 hx)⟩
theorem TbOk.nil : TbOk [] := ⟨List.Pairwise.nil, by simp, by simp, by simp⟩
theorem begC_perm {X Y : List Ln} (d : Dist X) (p : X.Perm Y) (s : ByteArray) (q : Nat) : begC X s q = begC Y s q := by
  rw [begC_look, begC_look, lookL_perm d p, p.length_eq]
theorem donC_perm {X Y : List Ln} (d : Dist X) (p : X.Perm Y) (s : ByteArray) (q : Nat) : donC X s q = donC Y s q := by
  rw [donC_look, donC_look, lookL_perm d p]
theorem atL_perm {X Y : List Ln} (d : Dist X) (p : X.Perm Y) (s : ByteArray) : (atL X s < X.length) ↔ (atL Y s < Y.length) := by
  have h := lookL_perm d p s
  rw [lookL_at, lookL_at] at h
  by_cases h1 : atL X s < X.length <;> by_cases h2 : atL Y s < Y.length <;> simp [h1, h2] at h ⊢
theorem begX_perm {X Y : List Ln} (d : Dist X) (p : X.Perm Y) (s : ByteArray) (q : Nat) : (begX X s q).Perm (begX Y s q) := by
  unfold begX
  rw [begC_perm d p s q]
  split
  · by_cases h : atL X s < X.length
    · have h2 := (atL_perm d p s).1 h
      rw [if_pos h, if_pos h2, set_upd d s (fun x => x.wtop q) h, set_upd (d.perm p) s (fun x => x.wtop q) h2]
      exact updL_perm p s _
    · rw [if_neg h, if_neg (fun h2 => h ((atL_perm d p s).2 h2))]
      exact p.append_right _
  · exact p
theorem donC_zero {X : List Ln} {s : ByteArray} {q : Nat} (h : donC X s q = 0) : atL X s < X.length := by
  unfold donC at h
  split at h
  · assumption
  · cases h
theorem donX_perm {X Y : List Ln} (d : Dist X) (p : X.Perm Y) (s : ByteArray) (q l e : Nat) : (donX X s q l e).Perm (donX Y s q l e) := by
  unfold donX
  rw [donC_perm d p s q]
  split
  · rename_i h
    have h2 := donC_zero h
    have h1 := (atL_perm d p s).2 h2
    rw [set_upd d s (fun x => x.wdone q l e) h1, set_upd (d.perm p) s (fun x => x.wdone q l e) h2]
    exact updL_perm p s _
  · exact p
theorem forX_perm {X Y : List Ln} (p : X.Perm Y) : (forX X).Perm (forX Y) := (p.filter _).map _
/-- What holds of a table goes on holding. -/
theorem TbOk.beg {X : List Ln} (h : TbOk X) (s : ByteArray) (q : Nat) (hq : q < 18446744073709551616) : TbOk (begX X s q) := by
  unfold begX
  split
  · rename_i h0
    have hs : 1 ≤ s.size ∧ s.size ≤ 64 := by
      unfold begC at h0
      split at h0
      · cases h0
      · omega
    by_cases h1 : atL X s < X.length
    · rw [if_pos h1, set_upd h.dist s (fun x => x.wtop q) h1]
      refine ⟨dist_names (updL_names s (fun x => x.wtop q) (fun x => rfl)).symm h.dist, fun x hx => ?_, by unfold updL; rw [List.length_map]; exact h.few, fun x hx => ?_⟩
      · obtain ⟨y, hy, rfl⟩ := List.mem_map.1 hx
        have := h.size y hy
        split
        · exact this
        · exact this
      · obtain ⟨y, hy, rfl⟩ := List.mem_map.1 hx
        have := h.fits y hy
        split
        · exact ⟨hq, this.2⟩
        · exact this
    · rw [if_neg h1]
      have h16 : X.length ≠ 16 := by
        intro h16
        unfold begC at h0
        rw [if_neg (by omega), if_neg h1, if_pos h16] at h0
        split at h0 <;> cases h0
      have hno : ∀ x ∈ X, x.nm ≠ s := by
        rw [← lookL_none, lookL_at, if_neg h1]
      refine ⟨?_, fun x hx => ?_, by have := h.few; simp; omega, fun x hx => ?_⟩
      · rw [List.pairwise_append]
        exact ⟨h.dist, by simp, fun x hx y hy => by simp at hy; subst hy; exact hno x hx⟩
      · rcases List.mem_append.1 hx with h2 | h2
        · exact h.size x h2
        · simp at h2; subst h2; exact hs
      · rcases List.mem_append.1 hx with h2 | h2
        · exact h.fits x h2
        · simp at h2; subst h2; exact ⟨hq, (by show (0 : Nat) < _; decide), (by show (0 : Nat) < _; decide), (by show (0 : Nat) < _; decide)⟩
  · exact h
theorem TbOk.don {X : List Ln} (h : TbOk X) (s : ByteArray) (q l e : Nat) (hq : q < 18446744073709551616) (hl : l < 18446744073709551616) (he : e < 18446744073709551616) : TbOk (donX X s q l e) := by
  unfold donX
  split
  · rename_i h0
    have h1 := donC_zero h0
    rw [set_upd h.dist s (fun x => x.wdone q l e) h1]
    refine ⟨dist_names (updL_names s (fun x => x.wdone q l e) (fun x => rfl)).symm h.dist, fun x hx => ?_, by unfold updL; rw [List.length_map]; exact h.few, fun x hx => ?_⟩
    · obtain ⟨y, hy, rfl⟩ := List.mem_map.1 hx
      have := h.size y hy
      split
      · exact this
      · exact this
    · obtain ⟨y, hy, rfl⟩ := List.mem_map.1 hx
      have := h.fits y hy
      split
      · exact ⟨this.1, hq, hl, he⟩
      · exact this
  · exact h
theorem forX_names (X : List Ln) : (forX X).map Ln.nm = (X.filter fun x => decide (0 < x.done)).map Ln.nm := by
  unfold forX; rw [List.map_map]; rfl
theorem TbOk.forg {X : List Ln} (h : TbOk X) : TbOk (forX X) := by
  refine ⟨dist_names (forX_names X).symm (List.Pairwise.sublist (List.filter_sublist) h.dist), fun x hx => ?_, by have := forX_len X; have := h.few; omega, fun x hx => ?_⟩
  · obtain ⟨y, hy, rfl⟩ := List.mem_map.1 hx
    exact h.size y (List.mem_filter.1 hy).1
  · obtain ⟨y, hy, rfl⟩ := List.mem_map.1 hx
    have := h.fits y (List.mem_filter.1 hy).1
    exact ⟨this.2.1, this.2⟩
end Go.Proofs.YtahhkffghhgojaaDoor
